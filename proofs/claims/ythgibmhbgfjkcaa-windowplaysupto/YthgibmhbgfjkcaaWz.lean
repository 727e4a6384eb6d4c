/- The contract of the law's plays, whole; lemmas for a play; of no statement by themselves. -/
import Derived.Test.YthgibmhbgfjkcaaWy
namespace Go.Proofs.Ythgibmhbgfjkcaa
open Go.RowKit
set_option linter.unusedVariables false

variable {Win : World → Nat → Nat → Value → Nat → List Nat → Prop}
theorem mem_set_le {its : List Pr} {m b : Nat} {i : Nat} {x : Pr} (h : ∀ z ∈ its, z.bs.length ≤ m) (hx : x.bs.length ≤ b) (hmb : m ≤ b) : ∀ z ∈ its.set i x, z.bs.length ≤ b := fun z hz => by
  rcases List.mem_or_eq_of_mem_set hz with e | e
  · exact Nat.le_trans (h z e) hmb
  · rw [e]; exact hx
theorem plays_any (S : WinSpec Win) (w0 wA : World) (lv bv : Value) (its : List Pr) (hs : List Bk.Hd) (hp : Pl Win w0 wA lv its bv hs) (i : Nat) (hi : i < its.length) (o : Wop) (hok : o.ok) (hrow : Row8 w0 o.ad o.len o.cap (nums o.bs)) (hlen : o.len ≤ 1048576) (m : Nat) (hm : ∀ x ∈ its, x.bs.length ≤ m) (hm2 : m ≤ 70368744177664) (hhl : hs.length ≤ 16777216) : Calls Try.prog 20 #[.agg #[.pointer (some ⟨its[i].a, 0, none⟩), .pointer (some ⟨its[i].r, 0, none⟩)], .agg #[.int .i64 o.kd, .int .i64 o.wi, .int .i64 o.dist, .int .i64 o.n, .slice o.ad o.len o.cap], bv] wA fun e w' => ∃ bv' its' hs', e = .returned (.tuple #[bv', .bool true]) ∧ Pl Win w0 w' lv its' bv' hs' ∧ its'.length = its.length ∧ (∀ x ∈ its', x.bs.length ≤ m + 1049000) ∧ hs'.length ≤ hs.length + 1 := by
  obtain ⟨⟨a, r, v, y, n, bs⟩, hx⟩ : ∃ x, its[i] = x := ⟨_, rfl⟩
  have hbs : bs.length ≤ m := by have := hm _ (List.getElem_mem hi); rw [hx] at this; exact this
  have ht := hp.two i hi hx
  have hB := hp.chg.size
  rw [hx]
  obtain ⟨kd, wi, dist, nn, ad, len, cap, xs⟩ := o
  have hxl : xs.length = len := by have := hrow.1; rw [nums_len] at this; exact this
  have hl2 : len ≤ 1048576 := hlen
  by_cases k1 : kd = 1
  · subst k1
    refine (plays_put S w0 wA lv bv its hs hp i hi a r v y n bs hx wi dist nn ad len cap xs hrow hok.dig (by omega) (by omega)).mono fun e w' ⟨h1, v', y', h2⟩ => ?_
    exact ⟨bv, _, hs, h1, h2, List.length_set, mem_set_le hm (by show (bs ++ xs).length ≤ _; rw [List.length_append]; omega) (by omega), by omega⟩
  by_cases k2 : kd = 2
  · subst k2
    refine (plays_copy S w0 wA lv bv its hs hp i hi a r v y n bs hx wi dist nn ad len cap hok.hd hok.hn (by omega) hhl).mono fun e w' ⟨bv', x', h', h1, h2, h3⟩ => ?_
    exact ⟨bv', _, _, h1, h2, List.length_set, mem_set_le hm (by omega) (by omega), by simp⟩
  by_cases k3 : kd = 3
  · subst k3
    refine (plays_last S w0.heap.size a r v y n bs wi dist nn ad len cap bv wA ht (by omega) hok.hd).mono fun e w' ⟨h1, h2⟩ => ?_
    exact ⟨bv, _, hs, h1, h2.pl S hp i hi hx, List.length_set, mem_set_le hm (by show bs.length ≤ _; omega) (by omega), by omega⟩
  by_cases k4 : kd = 4
  · subst k4
    refine (plays_ask S w0.heap.size a r v y n bs wi dist nn ad len cap bv wA ht (by omega)).mono fun e w' ⟨h1, h2⟩ => ?_
    exact ⟨bv, _, hs, h1, h2.pl S hp i hi hx, List.length_set, mem_set_le hm (by show bs.length ≤ _; omega) (by omega), by omega⟩
  by_cases k5 : kd = 5
  · subst k5
    refine (plays_clear S w0.heap.size a r v y n bs wi dist nn ad len cap bv wA ht (by omega) hB).mono fun e w' ⟨h1, v', y', h2⟩ => ?_
    exact ⟨bv, _, hs, h1, h2.pl S hp i hi hx, List.length_set, mem_set_le hm (by show 0 ≤ _; omega) (by omega), by omega⟩
  refine (plays_other S w0.heap.size a r v y n bs kd wi dist nn ad len cap bv wA ht (by omega) k1 k2 k3 k4 k5).mono fun e w' ⟨h1, h2⟩ => ?_
  exact ⟨bv, _, hs, h1, h2.pl S hp i hi hx, List.length_set, mem_set_le hm (by show bs.length ≤ _; omega) (by omega), by omega⟩
theorem Pl.empty {w0 w : World} (hc : Chg (fun _ => False) w0 w) : Pl Win w0 w (.slice none 0 0) [] (.slice none 0 0) [] :=
  ⟨hc, World.ownsRow_nil _ _ _ _, fun i hi => by simp at hi, fun i j hi => by simp at hi, by simp, Bk.Bk.nil _ _, fun i hi => by simp at hi⟩
theorem Pl.form {w0 w : World} {lv bv : Value} {its : List Pr} {hs : List Bk.Hd} (h : Pl Win w0 w lv its bv hs) : ∃ a c, lv = .slice a its.length c := by
  rcases h.row.2 with ⟨rfl, e⟩ | ⟨g, cap, cur, rfl, _⟩
  · exact ⟨none, 0, by rw [e]⟩
  · exact ⟨_, cap, rfl⟩
/-- A pair that was just made. -/
theorem newpair (S : WinSpec Win) {W w1 w2 : World} {a r : Nat} {v y : Value} {n : Nat} {bs : List Nat} (c1 : Chg (fun _ => False) W w1) (c2 : Chg (fun _ => False) w1 w2) (hE : Win w1 W.heap.size a v n bs) (hR : Rw w2 w1.heap.size r y n bs) : Good Win w2 W.heap.size ⟨a, r, v, y, n, bs⟩ :=
  ⟨S.new hE c2, hR.down c1.size, fun z f g => by
    have h1 := (S.lt hE z f).2
    have h2 := (hR.lt g).1
    omega⟩
theorem Good.base (S : WinSpec Win) {w : World} {B B' : Nat} {x : Pr} (h : Good Win w B x) (hB : B' ≤ B) : Good Win w B' x := ⟨S.down h.win hB, h.rw.down hB, h.dis⟩
/-- A fork of a pair under way. -/
def ForkJ (Win : World → Nat → Nat → Value → Nat → List Nat → Prop) (W : World) (x : Pr) (y z v : Value) : Nat → World → Prop
  | 0, w => True
  | 1, w => ∃ a2 v2, y = .pointer (some ⟨a2, 0, none⟩) ∧ Win w W.heap.size a2 v2 x.n x.bs
  | 2, w => ∃ a2 r2 v2 y2, y = .pointer (some ⟨a2, 0, none⟩) ∧ z = .pointer (some ⟨r2, 0, none⟩) ∧ Good Win w W.heap.size ⟨a2, r2, v2, y2, x.n, x.bs⟩
  | _, w => ∃ a2 r2 v2 y2, v = .agg #[.pointer (some ⟨a2, 0, none⟩), .pointer (some ⟨r2, 0, none⟩)] ∧ Good Win w W.heap.size ⟨a2, r2, v2, y2, x.n, x.bs⟩
theorem forkj_new (S : WinSpec Win) {W : World} {x : Pr} {y z v : Value} : ∀ {q : Nat} {w w' : World}, ForkJ Win W x y z v q w → Chg (fun _ => False) w w' → ForkJ Win W x y z v q w'
  | 0, _, _, _, _ => trivial
  | 1, _, _, ⟨a2, v2, e, h⟩, hc => ⟨a2, v2, e, S.new h hc⟩
  | 2, _, _, ⟨a2, r2, v2, y2, e1, e2, h⟩, hc => ⟨a2, r2, v2, y2, e1, e2, h.new S hc⟩
  | _ + 3, _, _, ⟨a2, r2, v2, y2, e, h⟩, hc => ⟨a2, r2, v2, y2, e, h.new S hc⟩
/-- What a step leaves. -/
structure Aft (Win : World → Nat → Nat → Value → Nat → List Nat → Prop) (w0 w : World) (lv bv : Value) (L m b : Nat) : Prop where
  more : ∃ its hs, Pl Win w0 w lv its bv hs ∧ its.length = L ∧ (∀ x ∈ its, x.bs.length ≤ m) ∧ hs.length ≤ b
def PlayJ (Win : World → Nat → Nat → Value → Nat → List Nat → Prop) (w0 W : World) (lv bv0 : Value) (L m b : Nat) (z1 z2 z3 z4 : Value) : Nat → World → Prop
  | 0, w => Chg (fun _ => False) W w ∧ z4 = bv0
  | 1, w => ∃ bv, z1 = .tuple #[bv, .bool true] ∧ Aft Win w0 w lv bv L m b
  | 2, w => ∃ bv, z2 = .tuple #[bv, .bool true] ∧ Aft Win w0 w lv bv L m b
  | 3, w => Aft Win w0 w lv z3 L m b
  | _, w => Aft Win w0 w lv z4 L m b
theorem pRW_ne (x : Addr) (w : World) : (binOp .eql 44 (.pointer (some x)) (.pointer none)).run Try.prog w = .ok (.bool false) w := by kernel_rfl
theorem pW_neq (x : Addr) (w : World) : (binOp .neq 23 (.pointer (some x)) (.pointer none)).run Try.prog w = .ok (.bool true) w := by kernel_rfl
theorem pW_nil (w : World) : (binOp .eql 23 (.pointer none) (.pointer none)).run Try.prog w = .ok (.bool true) w := by kernel_rfl
theorem pRW_nil (w : World) : (binOp .eql 44 (.pointer none) (.pointer none)).run Try.prog w = .ok (.bool true) w := by kernel_rfl
theorem pW_nilq (w : World) : (binOp .neq 23 (.pointer none) (.pointer none)).run Try.prog w = .ok (.bool false) w := by kernel_rfl
end Go.Proofs.Ythgibmhbgfjkcaa
