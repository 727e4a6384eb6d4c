/- The law's codes, any step; of no statement by itself. -/
import Derived.Test.YtibgjpifmpljkaaCw
import Derived.Test.YtibgjpifmpljkaaCh
import Derived.Test.YtibgjpifmpljkaaBoundC
namespace Go.Proofs.Ytibgjpifmpljkaa
open Go.RowKit
set_option linter.unusedVariables false

theorem moved_same (w : World) (v : Value) : Moved w v v := fun g e => .inl e
theorem pside_no {F : FuncId} {args : Array Value} {B a : Nat} {v : Value} {x : It} {e : Rc.E} {er : Int} (h : ∀ w, Enc w B a v e → St w B x.a x.v x.xs → Calls Try.prog F args w fun z w' => z = .returned (.int .i64 er) ∧ Chg (fun _ => False) w w') : PSide F args B a v x e er e x.xs := fun w hE hS _ =>
  (h w hE hS).mono fun z w' ⟨hz, c⟩ => ⟨hz, v, hE.new c, hS.new c, c.mono (fun _ f => f.elim), moved_same w v⟩
theorem rside_no {F : FuncId} {args : Array Value} {B r : Nat} {y : Value} {x : It} {e : Rc.E} {er : Int} (h : ∀ w, Rt w B x.r x.n x.u x.xs → Calls Try.prog F args w fun z w' => z = .returned (.int .i64 er) ∧ Chg (fun _ => False) w w') : RSide F args B r y x e er e x.xs := fun w hE hS _ =>
  (h w hS).mono fun z w' ⟨hz, c⟩ => ⟨hz, y, hE.new c, hS.new c, c.mono (fun _ f => f.elim), moved_same w y⟩
/-- Bits without a probability: at most a byte every other bit. -/
theorem direct_k1 (x : Nat) : ∀ (m : Nat) {e : Rc.E}, Rc.Ok e → (direct x m e).k ≤ e.k + (m + 1) / 2 ∧ (33554432 ≤ e.R → (direct x m e).k ≤ e.k + m / 2)
  | 0, e, _ => ⟨by show e.k ≤ _; omega, fun _ => by show e.k ≤ _; omega⟩
  | m + 1, e, h => by
    have ih := direct_k1 x m (Rc.half_ok h (decide (x / 2 ^ m % 2 = 1)))
    have hk := Rc.half_k e (decide (x / 2 ^ m % 2 = 1))
    have hR := Rc.half_R e (decide (x / 2 ^ m % 2 = 1))
    have hlo := h.lo
    show (direct x m (Rc.half e _)).k ≤ _ ∧ (_ → (direct x m (Rc.half e _)).k ≤ _)
    by_cases hc : e.R / 2 < 16777216
    · rw [if_pos hc] at hk hR
      have h2 := ih.2 (by omega)
      exact ⟨by omega, fun f => by omega⟩
    · rw [if_neg hc] at hk hR
      have h1 := ih.1
      exact ⟨by omega, fun f => by omega⟩
theorem direct_k2 (x m : Nat) {e : Rc.E} (h : Rc.Ok e) : (direct x m e).k ≤ e.k + (m + 1) / 2 := (direct_k1 x m h).1
/-- What a step makes of an encoder and a row. -/
structure Goes (e : Rc.E) (xs : List Int) (e' : Rc.E) (xs' : List Int) : Prop where
  ok : Rc.Ok e'
  inn : In31 xs'
  len : xs'.length = xs.length
  k : e'.k ≤ e.k + 16
theorem goes_put (back : Bool) {e : Rc.E} {xs : List Int} {p n x : Int} (hO : Rc.Ok e) (hI : In31 xs) (hf : Fits xs.length p n x) : Goes e xs (encL (numQ back p n x) e xs).1 (encL (numQ back p n x) e xs).2 := by
  obtain ⟨h1, h2, h3⟩ := fits_bits hf
  have hq := wayQ_ok1 h1 (bitsOf_01 back n.toNat x.toNat) (by rw [bitsOf_len]; exact Nat.le_refl _)
  have hw := encL_within (numQ back p n x) hO hI
  have hk := way_k p.toNat (bitsOf back n.toNat x.toNat) 1 e xs (bitsOf_01 _ _ _) hq
  rw [bitsOf_len] at hk
  exact ⟨hw.2.1, hw.2.2, way_len p.toNat _ _ _, by show (encL (wayQ _ _ _) e xs).1.k ≤ _; omega⟩
theorem sides_put (T : TreePut) (back : Bool) (B a r : Nat) (v y : Value) (x : It) (e : Rc.E) (p n xv : Int) (hO : Rc.Ok e) (hk : e.k + 33 ≤ 70368744177664) (hI : In31 x.xs) (hl : x.xs.length ≤ 1048576) (hp : I64 p) (hn : I64 n) (hx : I64 xv) : ∃ er e' xs', PSide (putF back) #[.pointer (some ⟨a, 0, none⟩), .pointer (some ⟨x.a, 0, none⟩), .int .i64 p, .int .i64 n, .int .i64 xv] B a v x e er e' xs' ∧ RSide 57 #[.pointer (some ⟨r, 0, none⟩), .pointer (some ⟨x.r, 0, none⟩), .int .i64 p, .int .i64 n, .int .i64 xv, .bool back] B r y x e er e' xs' ∧ Goes e x.xs e' xs' := by
  by_cases hf : Fits x.xs.length p n xv
  · refine ⟨0, _, _, fun w hE hS hB => ?_, fun w hR hT hB => ?_, goes_put back hO hI hf⟩
    · refine (T.put back B B a x.a v x.v e x.xs p n xv w hE hO (by omega) hB hS hI hl hp hn hx).mono ?_
      rintro z w' (⟨h1, _⟩ | ⟨_, hz, v', h1, h2, h3, h4⟩)
      · exact absurd hf h1
      · exact ⟨hz, v', h1, h2, h3, h4⟩
    · refine (refput_any B B r x.r x.n y x.u e x.xs p n xv back x.xs.length w hR hO (by omega) hB hT hI rfl hl hp hn).mono ?_
      rintro z w' (⟨h1, _⟩ | ⟨_, hz, y', h1⟩)
      · exact absurd hf h1
      · exact ⟨hz, y', h1.re, h1.rt, h1.chg, h1.mov⟩
  · refine ⟨7, e, x.xs, fun w hE hS hB => ?_, fun w hR hT hB => ?_, ⟨hO, hI, rfl, by omega⟩⟩
    · refine (T.put back B B a x.a v x.v e x.xs p n xv w hE hO (by omega) hB hS hI hl hp hn hx).mono ?_
      rintro z w' (⟨_, hz, c⟩ | ⟨h1, _⟩)
      · exact ⟨hz, v, hE.new c, hS.new c, c.mono (fun _ f => f.elim), moved_same w v⟩
      · exact absurd h1 hf
    · refine (refput_any B B r x.r x.n y x.u e x.xs p n xv back x.xs.length w hR hO (by omega) hB hT hI rfl hl hp hn).mono ?_
      rintro z w' (⟨_, hz, c⟩ | ⟨h1, _⟩)
      · exact ⟨hz, y, hR.new c, hT.new c, c.mono (fun _ f => f.elim), moved_same w y⟩
      · exact absurd h1 hf
theorem sides_bit (B a r : Nat) (v y : Value) (x : It) (e : Rc.E) (p xv : Int) (hO : Rc.Ok e) (hk : e.k + 33 ≤ 70368744177664) (hI : In31 x.xs) : ∃ er e' xs', PSide 43 #[.pointer (some ⟨a, 0, none⟩), .pointer (some ⟨x.a, 0, none⟩), .int .i64 p, .int .i64 xv] B a v x e er e' xs' ∧ RSide 58 #[.pointer (some ⟨r, 0, none⟩), .pointer (some ⟨x.r, 0, none⟩), .int .i64 p, .int .i64 xv] B r y x e er e' xs' ∧ Goes e x.xs e' xs' := by
  by_cases hf : p < 0 ∨ (x.xs.length : Int) ≤ p
  · refine ⟨7, e, x.xs, pside_no fun w _ hS => ?_, rside_no fun w hT => ?_, ⟨hO, hI, rfl, by omega⟩⟩
    · refine (bit_out B x.a x.v _ x.xs p _ w hS hf).mono ?_
      rintro z w' ⟨hz, rfl⟩
      exact ⟨hz, Chg.refl _ _⟩
    · refine (rebit_out B 0 x.r x.n x.u _ x.xs p _ w hT hf).mono ?_
      rintro z w' ⟨hz, rfl⟩
      exact ⟨hz, Chg.refl _ _⟩
  · obtain ⟨j, rfl⟩ : ∃ j : Nat, p = j := ⟨p.toNat, by omega⟩
    have hj : j < x.xs.length := by omega
    have h31 := hI.at j hj
    refine ⟨0, coded e x.xs[j] xv, x.xs.set j (Prob.nx x.xs[j] xv), fun w hE hS hB => ?_, fun w hR hT hB => ?_, ⟨coded_ok hO h31.1 h31.2, hI.set j _ (Prob.nx_lo h31.1 h31.2), List.length_set .., by have := coded_k (e := e) (p := x.xs[j]) (b := xv); omega⟩⟩
    · exact bit_in B B a x.a x.v v x.xs j xv e w hS hI hj hE hO (by omega) hB
    · exact rebit_in B B r x.r x.n x.u y x.xs j xv e w hT hI hj hR hO (by omega) hB
theorem u32_nat (x : Int) : ∃ m : Nat, m ≤ 4294967295 ∧ IntKind.u32.wrap x = (m : Int) := ⟨(IntKind.u32.wrap x).toNat, by simp [IntKind.wrap, IntKind.signed, IntKind.bits]; omega, by simp [IntKind.wrap, IntKind.signed, IntKind.bits]; omega⟩
theorem sides_direct (B a r : Nat) (v y : Value) (x : It) (e : Rc.E) (n xv : Int) (hO : Rc.Ok e) (hk : e.k + 33 ≤ 70368744177664) (hI : In31 x.xs) : ∃ er e' xs', PSide 50 #[.pointer (some ⟨a, 0, none⟩), .int .u32 (IntKind.u32.wrap xv), .int .i64 n] B a v x e er e' xs' ∧ RSide 59 #[.pointer (some ⟨r, 0, none⟩), .int .u32 (IntKind.u32.wrap xv), .int .i64 n] B r y x e er e' xs' ∧ Goes e x.xs e' xs' := by
  obtain ⟨m, hm, em⟩ := u32_nat xv
  rw [em]
  by_cases hf : n < 0 ∨ 32 < n
  · refine ⟨7, e, x.xs, pside_no fun w _ hS => ?_, rside_no fun w hT => ?_, ⟨hO, hI, rfl, by omega⟩⟩
    · refine (direct_out _ _ n w hf).mono ?_
      rintro z w' ⟨hz, rfl⟩
      exact ⟨hz, Chg.refl _ _⟩
    · refine (redirect_out _ _ n w hf).mono ?_
      rintro z w' ⟨hz, rfl⟩
      exact ⟨hz, Chg.refl _ _⟩
  · obtain ⟨j, rfl⟩ : ∃ j : Nat, n = j := ⟨n.toNat, by omega⟩
    have hj : j ≤ 32 := by omega
    have hdk := direct_k_le m j e
    have hdk2 := direct_k2 m j hO
    refine ⟨0, direct m j e, x.xs, fun w hE hS hB => ?_, fun w hR hT hB => ?_, ⟨direct_ok m j hO, hI, rfl, by omega⟩⟩
    · refine (direct_in B a v e m j w hE hO hm hj (by omega) hB).mono ?_
      rintro z w' ⟨hz, v', h1, h2, h3⟩
      have hs : ∀ g, (g = x.a ∨ x.v.ownBlock = some g) → ¬ Foot a v g := fun g f f2 => ?_
      · exact ⟨hz, v', h1, hS.keep h2 (hs _ (.inl rfl)) (fun g e => hs g (.inr e)), h2.mono (fun z f => .inl (.inl f)), h3⟩
      · have hf := hE.far f2
        rcases f with f | f
        · rw [f] at hf; exact far_not hf hS.blk (.inl rfl)
        · obtain ⟨cs, hcs⟩ := owns_blk hS.own f; exact far_not hf hcs (.inr (.inl rfl))
    · refine (redirect_in B r y e m j w hR hO hm hj (by omega) hB).mono ?_
      rintro z w' ⟨hz, v', h1, h2, h3⟩
      have hs : ∀ g, (g = x.r ∨ x.u.ownBlock = some g) → ¬ Foot r y g := fun g f f2 => ?_
      · exact ⟨hz, v', h1, hT.keep h2 (hs _ (.inl rfl)) (fun g e => hs g (.inr e)), h2.mono (fun z f => .inl (.inl f)), h3⟩
      · have hf := hR.far f2
        rcases f with f | f
        · rw [f] at hf; exact far_not hf hT.blk (.inr (.inr (.inl rfl)))
        · obtain ⟨cs, hcs⟩ := owns_blk hT.own f; exact far_not hf hcs (.inr (.inr (.inr (.inl rfl))))

theorem codes_any (T : TreePut) (w0 w : World) (P : Nat) (av bv : Value) (its : List It) (a r : Nat) (v y : Value) (e : Rc.E) (kd row p n xv : Int) (hL : 0 < its.length) (h : Cod w0 w P av bv its a r v y e) (hk : e.k + 33 ≤ 70368744177664) (hp : I64 p) (hn : I64 n) (hx : I64 xv) :
    Calls Try.prog 28 #[.pointer (some ⟨P, 0, none⟩), .pointer (some ⟨a, 0, none⟩), .pointer (some ⟨r, 0, none⟩), .agg #[.int .i64 kd, .int .i64 row, .int .i64 p, .int .i64 n, .int .i64 xv]] w fun z w' => z = .returned (.bool true) ∧ ∃ its' v' y' e', Cod w0 w' P av bv its' a r v' y' e' ∧ its'.length = its.length ∧ e'.k ≤ e.k + 16 := by
  have hlt := ofN_lt hL row
  obtain ⟨k, hkk⟩ : ∃ k, ofN its.length row = k := ⟨_, rfl⟩
  rw [hkk] at hlt
  have hI := h.inn k hlt
  have hl := (h.play.good k hlt).len
  by_cases k0 : kd = 0
  · subst k0
    obtain ⟨er, e', xs', h1, h2, h3⟩ := sides_put T false w0.heap.size a r v y its[k] e p n xv h.ok hk hI hl hp hn hx
    exact (codes_0 w0 w P av bv its a r v y e row p n xv k hlt hkk h er e' xs' h1 h2 h3.ok h3.inn h3.len).mono fun z w' ⟨hz, v', y', hc⟩ => ⟨hz, _, v', y', e', hc, List.length_set .., h3.k⟩
  by_cases k1 : kd = 1
  · subst k1
    obtain ⟨er, e', xs', h1, h2, h3⟩ := sides_put T true w0.heap.size a r v y its[k] e p n xv h.ok hk hI hl hp hn hx
    exact (codes_1 w0 w P av bv its a r v y e row p n xv k hlt hkk h er e' xs' h1 h2 h3.ok h3.inn h3.len).mono fun z w' ⟨hz, v', y', hc⟩ => ⟨hz, _, v', y', e', hc, List.length_set .., h3.k⟩
  by_cases k3 : kd = 3
  · subst k3
    obtain ⟨er, e', xs', h1, h2, h3⟩ := sides_bit w0.heap.size a r v y its[k] e p xv h.ok hk hI
    exact (codes_3 w0 w P av bv its a r v y e row p n xv k hlt hkk h er e' xs' h1 h2 h3.ok h3.inn h3.len).mono fun z w' ⟨hz, v', y', hc⟩ => ⟨hz, _, v', y', e', hc, List.length_set .., h3.k⟩
  by_cases k4 : kd = 4
  · subst k4
    obtain ⟨er, e', xs', h1, h2, h3⟩ := sides_direct w0.heap.size a r v y its[k] e n xv h.ok hk hI
    exact (codes_4 w0 w P av bv its a r v y e row p n xv k hlt hkk h er e' xs' h1 h2 h3.ok h3.inn h3.len).mono fun z w' ⟨hz, v', y', hc⟩ => ⟨hz, _, v', y', e', hc, List.length_set .., h3.k⟩
  exact (codes_c T w0 w P av bv its a r v y e kd row p n xv k hlt hkk h hp hn hx k0 k1 k3 k4).mono fun z w' ⟨hz, hc⟩ => ⟨hz, its, v, y, e, hc, rfl, by omega⟩
end Go.Proofs.Ytibgjpifmpljkaa
