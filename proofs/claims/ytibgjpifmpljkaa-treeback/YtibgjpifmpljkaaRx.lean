/- The law's reads, any step; of no statement by itself. -/
import Derived.Test.YtibgjpifmpljkaaRw
import Derived.Test.YtibgjpifmpljkaaBoundH
namespace Go.Proofs.Ytibgjpifmpljkaa
open Go.RowKit
set_option linter.unusedVariables false

theorem getW_keeps {bs : List Nat} (hdig : Rc.Dig bs) (p : Nat) : ∀ (k m : Nat) {d d' : Rc.D} {xs xs' : List Int} {l : List Nat} {e : Nat}, OkD bs d → In31 xs → getW bs p k m d xs = (l, d', xs', e) → OkD bs d' ∧ In31 xs' ∧ xs'.length = xs.length
  | 0, m, d, d', xs, xs', l, e, hO, hI, h => by
    rw [getW] at h
    simp only [Prod.mk.injEq] at h
    obtain ⟨_, rfl, rfl, _⟩ := h
    exact ⟨hO, hI, rfl⟩
  | k + 1, m, d, d', xs, xs', l, e, hO, hI, h => by
    cases hd : decA bs ⟨false, ((p + m : Nat) : Int), 0, 0⟩ d xs with
    | error x =>
      rw [getW_err hd] at h
      simp only [Prod.mk.injEq] at h
      obtain ⟨_, rfl, rfl, _⟩ := h
      exact ⟨hO, hI, rfl⟩
    | ok z =>
      obtain ⟨b, d1, xs1⟩ := z
      obtain ⟨_, _, hO1, hI1, hl1⟩ := decA_ok hdig hO hI hd
      rw [getW_ok hd] at h
      obtain ⟨l2, d2, xs2, e2⟩ : List Nat × Rc.D × List Int × Nat := getW bs p k (2 * m + b) d1 xs1
      cases hg : getW bs p k (2 * m + b) d1 xs1 with
      | mk l3 R =>
        obtain ⟨d3, xs3, e3⟩ := R
        rw [hg] at h
        simp only [Prod.mk.injEq] at h
        obtain ⟨_, rfl, rfl, _⟩ := h
        have ih := getW_keeps hdig p k (2 * m + b) hO1 hI1 hg
        exact ⟨ih.1, ih.2.1, by rw [ih.2.2, hl1]⟩
structure Went (bs : List Nat) (xs : List Int) (d' : Rc.D) (xs' : List Int) : Prop where
  ok : OkD bs d'
  inn : In31 xs'
  len : xs'.length = xs.length
theorem gets_get {Dec : World → Nat → Nat → Value → List Nat → Rc.D → Prop} (S : DecSpec Dec) (G : TreeGet Dec) (back : Bool) (B a r : Nat) (v y : Value) (x : It) (bs : List Nat) (d : Rc.D) (p n : Int) (hO : OkD bs d) (hdig : Rc.Dig bs) (hbl : bs.length ≤ 140737488355328) (hI : In31 x.xs) (hl : x.xs.length ≤ 1048576) (hp : I64 p) (hn : I64 n) :
    ∃ rv er d' xs', PGet Dec (getF back) #[.pointer (some ⟨a, 0, none⟩), .pointer (some ⟨x.a, 0, none⟩), .int .i64 p, .int .i64 n] B a v x bs d (.tuple #[.int .i64 rv, .int .i64 er]) d' xs' ∧ RGet 61 #[.pointer (some ⟨r, 0, none⟩), .pointer (some ⟨x.r, 0, none⟩), .int .i64 p, .int .i64 n, .bool back] B r y x bs d (.tuple #[.int .i64 rv, .int .i64 er]) d' xs' ∧ Went bs x.xs d' xs' := by
  by_cases hf : Stands x.xs.length p n
  · cases hg : getW bs p.toNat n.toNat 1 d x.xs with
    | mk l R =>
      obtain ⟨d', xs', e⟩ := R
      have hk := getW_keeps hdig p.toNat n.toNat 1 hO hI hg
      refine ⟨if 0 < e then 0 else ((numO back l : Nat) : Int), (e : Int), d', xs', fun w hD hS hB => ?_, fun w hR hT hB => ?_, ⟨hk.1, hk.2.1, hk.2.2⟩⟩
      · refine (G.get back B B a x.a v x.v bs d x.xs p n w hD hO hdig hbl hB hS hI hl hp hn).mono ?_
        rintro z w' (⟨h1, _⟩ | ⟨_, l2, d2, xs2, e2, hg2, h1, h2, h3, h4⟩)
        · exact absurd hf h1
        · rw [hg] at hg2
          simp only [Prod.mk.injEq] at hg2
          obtain ⟨rfl, rfl, rfl, rfl⟩ := hg2
          refine ⟨?_, h1, h2, h3⟩
          rcases h4 with ⟨h5, h6⟩ | ⟨h5, h6⟩
          · rw [if_pos h5]; exact h6
          · subst h5; exact h6
      · refine (refget_any B B r x.r x.n y x.u bs d x.xs p n back x.xs.length w hR hO hdig hbl hB hT hI rfl hl hp hn).mono ?_
        rintro z w' (⟨h1, _⟩ | ⟨_, ⟨l2, d2, xs2, e2, hg2, h5, h6, h7⟩ | ⟨R, hg2, h6, h7⟩⟩)
        · exact absurd hf h1
        · rw [hg] at hg2
          simp only [Prod.mk.injEq] at hg2
          obtain ⟨rfl, rfl, rfl, rfl⟩ := hg2
          exact ⟨by rw [if_pos h5]; exact h6, h7.rdc, h7.rt, h7.chg⟩
        · rw [hg] at hg2
          simp only [Prod.mk.injEq] at hg2
          obtain ⟨e1, e2, e3, e4⟩ := hg2
          subst e4
          rw [← e1] at h6
          rw [← e2, ← e3] at h7
          exact ⟨h6, h7.rdc, h7.rt, h7.chg⟩
  · refine ⟨0, 7, d, x.xs, fun w hD hS hB => ?_, fun w hR hT hB => ?_, ⟨hO, hI, rfl⟩⟩
    · refine (G.get back B B a x.a v x.v bs d x.xs p n w hD hO hdig hbl hB hS hI hl hp hn).mono ?_
      rintro z w' (⟨_, hz, c⟩ | ⟨h1, _⟩)
      · exact ⟨hz, S.keep hD c (fun f => f) (fun _ _ f => f), hS.new c, c.mono (fun _ f => f.elim)⟩
      · exact absurd h1 hf
    · refine (refget_any B B r x.r x.n y x.u bs d x.xs p n back x.xs.length w hR hO hdig hbl hB hT hI rfl hl hp hn).mono ?_
      rintro z w' (⟨_, hz, c⟩ | ⟨h1, _⟩)
      · exact ⟨hz, hR.new c, hT.new c, c.mono (fun _ f => f.elim)⟩
      · exact absurd h1 hf
theorem gets_bit {Dec : World → Nat → Nat → Value → List Nat → Rc.D → Prop} (S : DecSpec Dec) (B a r : Nat) (v y : Value) (x : It) (bs : List Nat) (d : Rc.D) (p : Int) (hO : OkD bs d) (hdig : Rc.Dig bs) (hbl : bs.length ≤ 140737488355328) (hI : In31 x.xs) :
    ∃ rv er d' xs', PGet Dec 54 #[.pointer (some ⟨a, 0, none⟩), .pointer (some ⟨x.a, 0, none⟩), .int .i64 p] B a v x bs d (.tuple #[.int .i64 rv, .int .i64 er]) d' xs' ∧ RGet 62 #[.pointer (some ⟨r, 0, none⟩), .pointer (some ⟨x.r, 0, none⟩), .int .i64 p] B r y x bs d (.tuple #[.int .i64 rv, .int .i64 er]) d' xs' ∧ Went bs x.xs d' xs' := by
  cases hd : decA bs ⟨false, p, 0, 0⟩ d x.xs with
  | error e =>
    refine ⟨0, (e : Int), d, x.xs, fun w hD hS hB => ?_, fun w hR hT hB => ?_, ⟨hO, hI, rfl⟩⟩
    · refine (S.bit B B a x.a v x.v bs d x.xs p w hD hO hdig hbl hS hI hB).mono ?_
      rintro z w' (⟨e2, h1, _, h2, h3, h4, h5⟩ | ⟨b, d2, xs2, h1, _⟩)
      · rw [hd] at h1; cases h1; exact ⟨h2, h3, h4, h5⟩
      · rw [hd] at h1; cases h1
    · refine (rdbit_A B B r x.r x.n y x.u x.xs p bs d w hR hO hT hI hbl hB).mono ?_
      rintro z w' (⟨e2, h1, h2, h3, h4, h5⟩ | ⟨b, d2, xs2, h1, _⟩)
      · rw [hd] at h1; cases h1; exact ⟨h2, h3, h4, h5⟩
      · rw [hd] at h1; cases h1
  | ok R =>
    obtain ⟨b, d', xs'⟩ := R
    have hk := decA_ok hdig hO hI hd
    refine ⟨(b : Int), 0, d', xs', fun w hD hS hB => ?_, fun w hR hT hB => ?_, ⟨hk.2.2.1, hk.2.2.2.1, hk.2.2.2.2⟩⟩
    · refine (S.bit B B a x.a v x.v bs d x.xs p w hD hO hdig hbl hS hI hB).mono ?_
      rintro z w' (⟨e2, h1, _⟩ | ⟨b2, d2, xs2, h1, h2, h3, h4, h5⟩)
      · rw [hd] at h1; cases h1
      · rw [hd] at h1; cases h1; exact ⟨h2, h3, h4, h5⟩
    · refine (rdbit_A B B r x.r x.n y x.u x.xs p bs d w hR hO hT hI hbl hB).mono ?_
      rintro z w' (⟨e2, h1, _⟩ | ⟨b2, d2, xs2, h1, h2, h3, h4, h5⟩)
      · rw [hd] at h1; cases h1
      · rw [hd] at h1; cases h1; exact ⟨h2, h3, h4, h5⟩
theorem gets_dir {Dec : World → Nat → Nat → Value → List Nat → Rc.D → Prop} (S : DecSpec Dec) (B a r : Nat) (v y : Value) (x : It) (bs : List Nat) (d : Rc.D) (n : Int) (hO : OkD bs d) (hdig : Rc.Dig bs) (hbl : bs.length ≤ 140737488355328) (hI : In31 x.xs) :
    ∃ rv er d' xs', PGet Dec 56 #[.pointer (some ⟨a, 0, none⟩), .int .i64 n] B a v x bs d (.tuple #[.int .u32 rv, .int .i64 er]) d' xs' ∧ RGet 63 #[.pointer (some ⟨r, 0, none⟩), .int .i64 n] B r y x bs d (.tuple #[.int .u32 rv, .int .i64 er]) d' xs' ∧ Went bs x.xs d' xs' := by
  have hst : ∀ {w w' : World}, Dec w B a v bs d → St w B x.a x.v x.xs → Chg (fun z => z = a) w w' → St w' B x.a x.v x.xs := fun {w w'} hD hS c => by
    obtain ⟨cs, hcs⟩ := S.blk hD
    refine hS.keep c (fun f => ?_) (fun g e f => ?_)
    · rw [← f] at hcs; exact ty_ne hcs hS.blk (by decide)
    · obtain ⟨c3, h3⟩ := owns_blk hS.own e; rw [f] at h3; exact ty_ne hcs h3 (by decide)
  have hrt : ∀ {w w' : World}, Rdc w B r y bs d → Rt w B x.r x.n x.u x.xs → Chg (fun z => z = r) w w' → Rt w' B x.r x.n x.u x.xs := fun {w w'} hD hS c => by
    refine hS.keep c (fun f => ?_) (fun g e f => ?_)
    · have hb := hD.blk; rw [← f] at hb; exact ty_ne hb hS.blk (by decide)
    · obtain ⟨c3, h3⟩ := owns_blk hS.own e; rw [f] at h3; exact ty_ne hD.blk h3 (by decide)
  cases hd : decA bs ⟨true, 0, n, 0⟩ d [] with
  | error e =>
    refine ⟨0, (e : Int), d, x.xs, fun w hD hS hB => ?_, fun w hR hT hB => ?_, ⟨hO, hI, rfl⟩⟩
    · refine (S.dir B a v bs d n w hD hO hdig hbl hB).mono ?_
      rintro z w' (⟨e2, h1, _, h2, h3, h4⟩ | ⟨b, d2, h1, _⟩)
      · rw [hd] at h1; cases h1; exact ⟨h2, h3, hst hD hS h4, h4.mono (fun z f => .inl (.inl f))⟩
      · rw [hd] at h1; cases h1
    · refine (rddir_A B r y n bs d w hR hO hbl hB).mono ?_
      rintro z w' (⟨e2, h1, h2, h3, h4⟩ | ⟨b, d2, h1, _⟩)
      · rw [hd] at h1; cases h1; exact ⟨h2, h3, hrt hR hT h4, h4.mono (fun z f => .inl (.inl f))⟩
      · rw [hd] at h1; cases h1
  | ok R =>
    obtain ⟨b, d', xs'⟩ := R
    have hk := decA_ok hdig hO (show In31 [] from fun p h => (List.not_mem_nil h).elim) hd
    have hx0 : xs' = [] := List.length_eq_zero_iff.1 hk.2.2.2.2
    subst hx0
    refine ⟨(b : Int), 0, d', x.xs, fun w hD hS hB => ?_, fun w hR hT hB => ?_, ⟨hk.2.2.1, hI, rfl⟩⟩
    · refine (S.dir B a v bs d n w hD hO hdig hbl hB).mono ?_
      rintro z w' (⟨e2, h1, _⟩ | ⟨b2, d2, h1, h2, h3, h4⟩)
      · rw [hd] at h1; cases h1
      · rw [hd] at h1; cases h1; exact ⟨h2, h3, hst hD hS h4, h4.mono (fun z f => .inl (.inl f))⟩
    · refine (rddir_A B r y n bs d w hR hO hbl hB).mono ?_
      rintro z w' (⟨e2, h1, _⟩ | ⟨b2, d2, h1, h2, h3, h4⟩)
      · rw [hd] at h1; cases h1
      · rw [hd] at h1; cases h1; exact ⟨h2, h3, hrt hR hT h4, h4.mono (fun z f => .inl (.inl f))⟩

theorem reads_any {Dec : World → Nat → Nat → Value → List Nat → Rc.D → Prop} (S : DecSpec Dec) (G : TreeGet Dec) (w0 w : World) (P : Nat) (av bv : Value) (its : List It) (a r : Nat) (v y : Value) (bs : List Nat) (d : Rc.D) (kd row p n xv : Int) (hL : 0 < its.length) (h : Red Dec w0 w P av bv its a r v y bs d) (hp : I64 p) (hn : I64 n) :
    Calls Try.prog 32 #[.pointer (some ⟨P, 0, none⟩), .pointer (some ⟨a, 0, none⟩), .pointer (some ⟨r, 0, none⟩), .agg #[.int .i64 kd, .int .i64 row, .int .i64 p, .int .i64 n, .int .i64 xv]] w fun z w' => z = .returned (.bool true) ∧ ∃ its' d', Red Dec w0 w' P av bv its' a r v y bs d' ∧ its'.length = its.length := by
  have hlt := ofN_lt hL row
  obtain ⟨k, hkk⟩ : ∃ k, ofN its.length row = k := ⟨_, rfl⟩
  rw [hkk] at hlt
  have hI := h.inn k hlt
  have hl := (h.play.good k hlt).len
  by_cases k0 : kd = 0
  · subst k0
    obtain ⟨rv, er, d', xs', h1, h2, h3⟩ := gets_get S G false w0.heap.size a r v y its[k] bs d p n h.ok h.dig h.bl hI hl hp hn
    exact (reads_0 S w0 w P av bv its a r v y bs d row p n xv k hlt hkk h rv er d' xs' h1 h2 h3.ok h3.inn h3.len).mono fun z w' ⟨hz, hc⟩ => ⟨hz, _, d', hc, List.length_set ..⟩
  by_cases k1 : kd = 1
  · subst k1
    obtain ⟨rv, er, d', xs', h1, h2, h3⟩ := gets_get S G true w0.heap.size a r v y its[k] bs d p n h.ok h.dig h.bl hI hl hp hn
    exact (reads_1 S w0 w P av bv its a r v y bs d row p n xv k hlt hkk h rv er d' xs' h1 h2 h3.ok h3.inn h3.len).mono fun z w' ⟨hz, hc⟩ => ⟨hz, _, d', hc, List.length_set ..⟩
  by_cases k3 : kd = 3
  · subst k3
    obtain ⟨rv, er, d', xs', h1, h2, h3⟩ := gets_bit S w0.heap.size a r v y its[k] bs d p h.ok h.dig h.bl hI
    exact (reads_3 S w0 w P av bv its a r v y bs d row p n xv k hlt hkk h rv er d' xs' h1 h2 h3.ok h3.inn h3.len).mono fun z w' ⟨hz, hc⟩ => ⟨hz, _, d', hc, List.length_set ..⟩
  by_cases k4 : kd = 4
  · subst k4
    obtain ⟨rv, er, d', xs', h1, h2, h3⟩ := gets_dir S w0.heap.size a r v y its[k] bs d n h.ok h.dig h.bl hI
    exact (reads_4 S w0 w P av bv its a r v y bs d row p n xv k hlt hkk h rv er d' xs' h1 h2 h3.ok h3.inn h3.len).mono fun z w' ⟨hz, hc⟩ => ⟨hz, _, d', hc, List.length_set ..⟩
  exact (reads_c S w0 w P av bv its a r v y bs d kd row p n xv k hlt hkk h k0 k1 k3 k4).mono fun z w' ⟨hz, hc⟩ => ⟨hz, its, d, hc, rfl⟩
end Go.Proofs.Ytibgjpifmpljkaa
