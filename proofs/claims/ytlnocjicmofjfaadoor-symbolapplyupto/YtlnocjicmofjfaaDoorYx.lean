/- A window, a state and the bytes so far, side by side; of no statement by itself. -/
import Derived.Test.YtlnocjicmofjfaaDoorYw
namespace Go.Proofs.YtlnocjicmofjfaaDoor
open Go.RowKit
open St12 Sy13
set_option linter.unusedVariables false
set_option linter.unusedSimpArgs false

def stc (s : Stt) : Array Value := #[.int .i64 s.n, .int .i64 s.a, .int .i64 s.b, .int .i64 s.c, .int .i64 s.d]
structure Ex (Wn : World → Nat → Nat → Value → Nat → List Nat → Prop) (tS : TypeId) (w0 wr : World) (a n : Nat) (v : Value) (wb : List Nat) (g : Nat) (s : Stt) (av : Value) (ab : List Nat) : Prop where
  win : Wn wr w0.heap.size a v n wb
  st : wr.heap[g]? = some (.cells (stc s) tS (0, 0))
  hg : w0.heap.size ≤ g
  all : wr.ownsRow w0.heap.size 5 1 av ab.length (ins .u8 (nums ab))
  apart : ∀ z, av.ownBlock = some z → ¬ Foot a v z
  chg : Chg (fun _ => False) w0 wr
variable {Wn : World → Nat → Nat → Value → Nat → List Nat → Prop} {t tS : TypeId}
theorem Ex.new (S : WLike Wn t) {w0 wr w2 : World} {a n : Nat} {v : Value} {wb : List Nat} {g : Nat} {s : Stt} {av : Value} {ab : List Nat} (h : Ex Wn tS w0 wr a n v wb g s av ab) (hc : Chg (fun _ => False) wr w2) : Ex Wn tS w0 w2 a n v wb g s av ab :=
  ⟨S.keep h.win hc (fun _ _ f => f), blk_keep h.st hc (fun f => f), h.hg, ownsRow_keep h.all hc (fun _ _ f => f), h.apart, chg_then h.chg hc⟩
/-- A symbol is applied. -/
theorem Ex.made (S : WLike Wn t) (h1 : tS ≠ t) (h2 : tS ≠ 5) {w0 wr w2 : World} {a n : Nat} {v : Value} {wb : List Nat} {g : Nat} {s : Stt} {av : Value} {ab : List Nat} (h : Ex Wn tS w0 wr a n v wb g s av ab) {N : Nat} {wb' xs : List Nat} {ov v' : Value}
    (hm : Made Wn w0.heap.size N a n wb' xs ov v' w2) (hc : Chg (Foot a v) wr w2) (hmv : Moved wr v v') (hN : wr.heap.size ≤ N) : Ex Wn tS w0 w2 a n v' wb' g s av ab ∧ ∀ z, av.ownBlock = some z → ov.ownBlock ≠ some z := by
  refine ⟨⟨hm.win, blk_keep h.st hc (S.off h.win h.st h1 h2), h.hg, ownsRow_keep h.all hc h.apart, fun z e f => ?_, h.chg.trans hc (fun z f => .inr (S.lt h.win z f).1)⟩, fun z e f => ?_⟩
  · rcases f with f | f
    · exact h.apart z e (.inl f)
    · rcases hmv z f with f | f
      · exact h.apart z e (.inr f)
      · have := (World.ownsRow.lt h.all z e).2
        omega
  · have k1 := (World.ownsRow.lt h.all z e).2
    have k2 := (World.ownsRow.lt hm.out z f).1
    omega
/-- The state is stored. -/
theorem Ex.store (S : WLike Wn t) (h1 : tS ≠ t) (h2 : tS ≠ 5) {w0 wr w2 : World} {a n : Nat} {v : Value} {wb : List Nat} {g : Nat} {s s' : Stt} {av : Value} {ab : List Nat} (h : Ex Wn tS w0 wr a n v wb g s av ab) (hc : Chg (fun z => z = g) wr w2) (hb : w2.heap[g]? = some (.cells (stc s') tS (0, 0))) : Ex Wn tS w0 w2 a n v wb g s' av ab :=
  ⟨S.keep h.win hc (fun z f e => S.off h.win h.st h1 h2 (e ▸ f)), hb, h.hg, ownsRow_keep h.all hc (fun z e => own_off h.all h.st h2 z e), h.apart, h.chg.trans hc (fun z e => .inr (by rw [e]; exact h.hg))⟩
/-- The bytes are lengthened. -/
theorem Ex.grow (S : WLike Wn t) (h2 : tS ≠ 5) {w0 wr w2 : World} {a n : Nat} {v : Value} {wb : List Nat} {g : Nat} {s : Stt} {av av' : Value} {ab ab' : List Nat} (h : Ex Wn tS w0 wr a n v wb g s av ab) (hc : Chg (fun z => av.ownBlock = some z) wr w2) (ho : w2.ownsRow w0.heap.size 5 1 av' ab'.length (ins .u8 (nums ab'))) (hm : Moved wr av av') : Ex Wn tS w0 w2 a n v wb g s av' ab' := by
  refine ⟨S.keep h.win hc (fun z f e => h.apart z e f), blk_keep h.st hc (fun e => own_off h.all h.st h2 g e rfl), h.hg, ho, fun z e f => ?_, h.chg.trans hc (fun z e => .inr (World.ownsRow.lt h.all z e).1)⟩
  rcases hm z e with e | e
  · exact h.apart z e f
  · have := (S.lt h.win z f).2
    omega
/-- Something of another kind changes. -/
theorem Ex.other (S : WLike Wn t) {w0 wr w2 : World} {a n : Nat} {v : Value} {wb : List Nat} {g : Nat} {s : Stt} {av : Value} {ab : List Nat} (h : Ex Wn tS w0 wr a n v wb g s av ab) {T : Nat → Prop} (hc : Chg T wr w2) (h0 : ∀ z, T z → w0.heap.size ≤ z) (hk : ∀ z, T z → z < wr.heap.size → ∃ cs tz fr, wr.heap[z]? = some (.cells cs tz fr) ∧ tz ≠ t ∧ tz ≠ 5 ∧ tz ≠ tS) : Ex Wn tS w0 w2 a n v wb g s av ab := by
  refine ⟨S.keep h.win hc (fun z f e => ?_), blk_keep h.st hc (fun e => ?_), h.hg, ownsRow_keep h.all hc (fun z e f => ?_), h.apart, h.chg.trans hc (fun z e => .inr (h0 z e))⟩
  · obtain ⟨cs, tz, fr, hb, k1, k2, _⟩ := hk z e (S.lt h.win z f).2
    exact S.off h.win hb k1 k2 f
  · obtain ⟨cs, tz, fr, hb, k1, k2, k3⟩ := hk g e (lt_of_blk h.st)
    rw [h.st] at hb
    simp only [Option.some.injEq, Obj.cells.injEq] at hb
    exact k3 hb.2.1.symm
  · obtain ⟨cs, tz, fr, hb, k1, k2, k3⟩ := hk z f (World.ownsRow.lt h.all z e).2
    exact own_off h.all hb k2 z e rfl
end Go.Proofs.YtlnocjicmofjfaaDoor
