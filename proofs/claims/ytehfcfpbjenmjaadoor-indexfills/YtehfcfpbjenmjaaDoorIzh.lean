/- The landed index's fields: a number that is taken; of no statement by itself. -/
import Derived.Test.YtehfcfpbjenmjaaDoorIzg
import Derived.Test.YtehfcfpbjenmjaaDoorIxn
namespace Go.Proofs.YtehfcfpbjenmjaaDoor
open Go.RowKit
set_option linter.unusedVariables false
set_option linter.unusedSimpArgs false
/-- A reader of fields, laid behind W0. -/
structure Fd (W0 : World) (f : Nat) (ad : Option Addr) (n c at_ : Nat) (w : World) : Prop where
  fld : Fld w f ad n c at_
  ch : Chg (fun _ => False) W0 w
  lo : W0.heap.size ≤ f
  ha : at_ ≤ n
theorem Fd.go {W0 w w' : World} {f n c at_ : Nat} {ad : Option Addr} {S : Nat → Prop} (h : Fd W0 f ad n c at_ w) (hc : Chg S w w') (hS : ∀ z, S z → z ≠ f ∧ W0.heap.size ≤ z) : Fd W0 f ad n c at_ w' := ⟨h.fld.keep hc (fun e => (hS _ e).1 rfl), h.ch.trans hc (fun z e => .inr (hS z e).2), h.lo, h.ha⟩
theorem Fd.on {W0 w w' : World} {f n c at_ a2 : Nat} {ad : Option Addr} {S : Nat → Prop} (h : Fd W0 f ad n c at_ w) (hf : Fld w' f ad n c a2) (hc : Chg S w w') (hS : ∀ z, S z → W0.heap.size ≤ z) (ha : a2 ≤ n) : Fd W0 f ad n c a2 w' := ⟨hf, h.ch.trans hc (fun z e => .inr (hS z e)), h.lo, ha⟩
set_option maxHeartbeats 4000000 in
set_option maxRecDepth 100000 in
theorem rightU_any (W0 : World) (f s : Nat) (ad : Option Addr) (n c at_ : Nat) (bs : List Nat) (x y : Int) (w0 : World) (hB : Row8 W0 ad n c (nums bs)) (hd : Rc.Dig bs) (hc : n ≤ c) (hn : n ≤ 140737488355328) (h : Fd W0 f ad n c at_ w0) (hs : Sms w0 s x y) (hsf : s ≠ f) (h0 : 0 ≤ x) (h1 : x ≤ 9223372036854775807) : Calls Tryd.prog 54 #[.pointer (some ⟨f, 0, none⟩), .func (.func 55) #[.pointer (some ⟨s, 0, none⟩)] #[]] w0 fun e w' => (((getN (bs.drop at_)).2.2 ≠ 0 ∧ e = .panicked (gaveX (getN (bs.drop at_)).2.2)) ∨ ((getN (bs.drop at_)).2.2 = 0 ∧ fitU x (getN (bs.drop at_)).1 = false ∧ e = .panicked (gaveX 2)) ∨ ((getN (bs.drop at_)).2.2 = 0 ∧ fitU x (getN (bs.drop at_)).1 = true ∧ e = .returned (.int .i64 ((getN (bs.drop at_)).1 : Int)) ∧ Fld w' f ad n c (at_ + (getN (bs.drop at_)).2.1) ∧ Sms w' s (x + Ix23.pad (getN (bs.drop at_)).1) (y))) ∧ Chg (fun z => z = f ∨ z = s) w0 w' := by
  have HN := number_any f ad n c at_ bs w0 h.fld h.ha (Bk.row8_chg hB h.ch) hd hc hn
  have hbk : (getN (bs.drop at_)).2.2 = 0 → (getN (bs.drop at_)).1 ≤ 9223372036854775807 := fun e => (getN_back (dig_drop hd at_) e).2
  have HSF : Hid (s ≠ f) := hsf
  have HS : Hid (Sms w0 s x y) := hs
  generalize getN (bs.drop at_) = G at *
  obtain ⟨v, k, er⟩ := G
  simp only at HN hbk ⊢
  obtain ⟨A, hA⟩ : ∃ A, at_ + k = A := ⟨_, rfl⟩
  rw [hA] at HN ⊢
  have HT : Hid (∀ w, er = 0 → Sms w s x y → Calls Tryd.prog 55 #[.pointer (some ⟨s, 0, none⟩), .int .i64 (v : Int)] w fun e w' => e = .returned (.bool (fitU x v)) ∧ Sms w' s (if fitU x v = true then x + Ix23.pad v else x) y ∧ Chg (fun k => k = s) w w') := fun w he hw => takeU_any s x y (v : Int) w hw h0 h1 ⟨by omega, by have := hbk he; omega⟩
  obtain ⟨ok, hok⟩ : ∃ o, fitU x (v : Int) = o := ⟨_, rfl⟩
  obtain ⟨r, hr⟩ : ∃ r : Int, x + Ix23.pad v = r := ⟨_, rfl⟩
  rw [hok, hr] at HT ⊢
  have HN : Hid _ := HN
  clear hB hd hc hn h hs hsf h0 h1 hbk hA hok hr
  go_enter Tryd.func54, Tryd.ntmps54
  go_wp2_with fail
  refine Calls.mono HN.out ?_
  rintro z w1 ⟨⟨he, rfl⟩ | ⟨he, rfl, h1⟩, c1⟩
  · exact ⟨rfl, .inl ⟨he, rfl⟩, c1.mono (fun z e => .inl (.inl e))⟩
  · subst he
    have HX : Hid _ := HT.out w1 rfl (HS.out.keep c1 HSF.out)
    have H1 : Hid (Fld w1 f ad n c A ∧ Chg (fun z => z = f) w0 w1) := ⟨h1, c1⟩
    clear h1 c1 HN HT
    go_wp2_with fail
    refine Calls.mono HX.out ?_
    rintro z w2 ⟨rfl, h2, c2⟩
    have H2 : Hid (Chg (fun z => z = f ∨ z = s) w0 w2 ∧ Fld w2 f ad n c A ∧ Sms w2 s (if ok = true then r else x) y) := ⟨(H1.out.2.mono (fun z e => .inl (.inl e))).trans c2 (fun z e => .inl (.inr e)), H1.out.1.keep c2 (fun e => HSF.out e.symm), h2⟩
    clear h2 c2 HX H1 HS
    cases ok
    · go_wp2
      first | exact ⟨rfl, .inr (.inl ⟨rfl, rfl, rfl⟩), H2.out.1⟩ | exact ⟨rfl, .inr (.inl ⟨trivial, trivial, rfl⟩), H2.out.1⟩
    · go_wp2
      go_ret
      first | exact ⟨.inr (.inr ⟨rfl, rfl, rfl, H2.out.2.1, H2.out.2.2⟩), H2.out.1⟩ | exact ⟨.inr (.inr ⟨trivial, trivial, rfl, H2.out.2.1, H2.out.2.2⟩), H2.out.1⟩ | exact ⟨⟨rfl, H2.out.2.1, H2.out.2.2⟩, H2.out.1⟩
set_option maxHeartbeats 4000000 in
set_option maxRecDepth 100000 in
theorem rightP_any (W0 : World) (f s : Nat) (ad : Option Addr) (n c at_ : Nat) (bs : List Nat) (x y : Int) (w0 : World) (hB : Row8 W0 ad n c (nums bs)) (hd : Rc.Dig bs) (hc : n ≤ c) (hn : n ≤ 140737488355328) (h : Fd W0 f ad n c at_ w0) (hs : Sms w0 s x y) (hsf : s ≠ f) (h0 : 0 ≤ y) (h1 : y ≤ 9223372036854775807) : Calls Tryd.prog 54 #[.pointer (some ⟨f, 0, none⟩), .func (.func 56) #[.pointer (some ⟨s, 0, none⟩)] #[]] w0 fun e w' => (((getN (bs.drop at_)).2.2 ≠ 0 ∧ e = .panicked (gaveX (getN (bs.drop at_)).2.2)) ∨ ((getN (bs.drop at_)).2.2 = 0 ∧ fitP y (getN (bs.drop at_)).1 = false ∧ e = .panicked (gaveX 2)) ∨ ((getN (bs.drop at_)).2.2 = 0 ∧ fitP y (getN (bs.drop at_)).1 = true ∧ e = .returned (.int .i64 ((getN (bs.drop at_)).1 : Int)) ∧ Fld w' f ad n c (at_ + (getN (bs.drop at_)).2.1) ∧ Sms w' s (x) (y + (getN (bs.drop at_)).1))) ∧ Chg (fun z => z = f ∨ z = s) w0 w' := by
  have HN := number_any f ad n c at_ bs w0 h.fld h.ha (Bk.row8_chg hB h.ch) hd hc hn
  have hbk : (getN (bs.drop at_)).2.2 = 0 → (getN (bs.drop at_)).1 ≤ 9223372036854775807 := fun e => (getN_back (dig_drop hd at_) e).2
  have HSF : Hid (s ≠ f) := hsf
  have HS : Hid (Sms w0 s x y) := hs
  generalize getN (bs.drop at_) = G at *
  obtain ⟨v, k, er⟩ := G
  simp only at HN hbk ⊢
  obtain ⟨A, hA⟩ : ∃ A, at_ + k = A := ⟨_, rfl⟩
  rw [hA] at HN ⊢
  have HT : Hid (∀ w, er = 0 → Sms w s x y → Calls Tryd.prog 56 #[.pointer (some ⟨s, 0, none⟩), .int .i64 (v : Int)] w fun e w' => e = .returned (.bool (fitP y v)) ∧ Sms w' s x (if fitP y v = true then y + v else y) ∧ Chg (fun k => k = s) w w') := fun w he hw => takeP_any s x y (v : Int) w hw h0 h1 ⟨by omega, by have := hbk he; omega⟩
  obtain ⟨ok, hok⟩ : ∃ o, fitP y (v : Int) = o := ⟨_, rfl⟩
  obtain ⟨r, hr⟩ : ∃ r : Int, y + v = r := ⟨_, rfl⟩
  rw [hok, hr] at HT ⊢
  have HN : Hid _ := HN
  clear hB hd hc hn h hs hsf h0 h1 hbk hA hok hr
  go_enter Tryd.func54, Tryd.ntmps54
  go_wp2_with fail
  refine Calls.mono HN.out ?_
  rintro z w1 ⟨⟨he, rfl⟩ | ⟨he, rfl, h1⟩, c1⟩
  · exact ⟨rfl, .inl ⟨he, rfl⟩, c1.mono (fun z e => .inl (.inl e))⟩
  · subst he
    have HX : Hid _ := HT.out w1 rfl (HS.out.keep c1 HSF.out)
    have H1 : Hid (Fld w1 f ad n c A ∧ Chg (fun z => z = f) w0 w1) := ⟨h1, c1⟩
    clear h1 c1 HN HT
    go_wp2_with fail
    refine Calls.mono HX.out ?_
    rintro z w2 ⟨rfl, h2, c2⟩
    have H2 : Hid (Chg (fun z => z = f ∨ z = s) w0 w2 ∧ Fld w2 f ad n c A ∧ Sms w2 s x (if ok = true then r else y)) := ⟨(H1.out.2.mono (fun z e => .inl (.inl e))).trans c2 (fun z e => .inl (.inr e)), H1.out.1.keep c2 (fun e => HSF.out e.symm), h2⟩
    clear h2 c2 HX H1 HS
    cases ok
    · go_wp2
      first | exact ⟨rfl, .inr (.inl ⟨rfl, rfl, rfl⟩), H2.out.1⟩ | exact ⟨rfl, .inr (.inl ⟨trivial, trivial, rfl⟩), H2.out.1⟩
    · go_wp2
      go_ret
      first | exact ⟨.inr (.inr ⟨rfl, rfl, rfl, H2.out.2.1, H2.out.2.2⟩), H2.out.1⟩ | exact ⟨.inr (.inr ⟨trivial, trivial, rfl, H2.out.2.1, H2.out.2.2⟩), H2.out.1⟩ | exact ⟨⟨rfl, H2.out.2.1, H2.out.2.2⟩, H2.out.1⟩

end Go.Proofs.YtehfcfpbjenmjaaDoor
