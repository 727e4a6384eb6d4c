/- Windows of either side, and what a symbol has made of one; of no statement by itself. -/
import Derived.Test.YtlnocjicmofjfaaDoorYr
import Derived.Test.YtlnocjicmofjfaaDoorBoundF
namespace Go.Proofs.YtlnocjicmofjfaaDoor
open Go.RowKit
open St12 Sy13
set_option linter.unusedVariables false
set_option linter.unusedSimpArgs false

structure WLike (Wn : World → Nat → Nat → Value → Nat → List Nat → Prop) (t : TypeId) : Prop where
  lt : ∀ {w B a v n bs}, Wn w B a v n bs → ∀ z, Foot a v z → B ≤ z ∧ z < w.heap.size
  blk : ∀ {w B a v n bs}, Wn w B a v n bs → ∃ cs, w.heap[a]? = some (.cells cs t (0, 0))
  ring : ∀ {w B a v n bs}, Wn w B a v n bs → ∀ g, v.ownBlock = some g → ∃ cs, w.heap[g]? = some (.cells cs 5 (0, 0))
  keep : ∀ {w w' B a v n bs} {S : Nat → Prop}, Wn w B a v n bs → Chg S w w' → (∀ z, Foot a v z → ¬ S z) → Wn w' B a v n bs
theorem WinSpec.like {Win : World → Nat → Nat → Value → Nat → List Nat → Prop} (S : WinSpec Win) : WLike Win 84 := ⟨S.lt, S.blk, S.ring, S.keep⟩
theorem rw_like : WLike Rw 65 := ⟨fun h z f => h.lt f, fun h => ⟨_, h.blk⟩, fun h g e => owns_blk h.own e, fun h hc hS => h.keep hc hS⟩
variable {Wn : World → Nat → Nat → Value → Nat → List Nat → Prop} {t : TypeId}
/-- A block of another kind is none of the window's. -/
theorem WLike.off (S : WLike Wn t) {w : World} {B a : Nat} {v : Value} {n : Nat} {bs : List Nat} (h : Wn w B a v n bs) {b : Nat} {cs : Array Value} {t' : TypeId} {fr : Nat × Nat} (hb : w.heap[b]? = some (.cells cs t' fr)) (h1 : t' ≠ t) (h2 : t' ≠ 5) : ¬ Foot a v b := by
  rintro (e | e)
  · subst e
    obtain ⟨c, hc⟩ := S.blk h
    rw [hb] at hc
    simp only [Option.some.injEq, Obj.cells.injEq] at hc
    exact h1 hc.2.1
  · obtain ⟨c, hc⟩ := S.ring h b e
    rw [hb] at hc
    simp only [Option.some.injEq, Obj.cells.injEq] at hc
    exact h2 hc.2.1
theorem own_off {w : World} {B : Nat} {v : Value} {m : Nat} {xs : List Value} (h : w.ownsRow B 5 1 v m xs) {b : Nat} {cs : Array Value} {t' : TypeId} {fr : Nat × Nat} (hb : w.heap[b]? = some (.cells cs t' fr)) (h2 : t' ≠ 5) : ∀ g, v.ownBlock = some g → ¬ g = b := fun g e hg => by
  subst hg
  obtain ⟨c, hc⟩ := owns_blk h e
  rw [hb] at hc
  simp only [Option.some.injEq, Obj.cells.injEq] at hc
  exact h2 hc.2.1
/-- What a symbol made: the window behind it, and the bytes in new memory. -/
structure Made (Wn : World → Nat → Nat → Value → Nat → List Nat → Prop) (B N a n : Nat) (bs' xs : List Nat) (ov v' : Value) (w : World) : Prop where
  win : Wn w B a v' n bs'
  out : w.ownsRow N 5 1 ov xs.length (ins .u8 (nums xs))
  apart : ∀ g, ov.ownBlock = some g → ¬ Foot a v' g
theorem Made.new (S : WLike Wn t) {B N a n : Nat} {bs' xs : List Nat} {ov v' : Value} {w w' : World} (h : Made Wn B N a n bs' xs ov v' w) (hc : Chg (fun _ => False) w w') : Made Wn B N a n bs' xs ov v' w' := ⟨S.keep h.win hc (fun _ _ f => f), ownsRow_keep h.out hc (fun _ _ f => f), h.apart⟩
theorem Made.off (S : WLike Wn t) {B N a n : Nat} {bs' xs : List Nat} {ov v' : Value} {w w' : World} (h : Made Wn B N a n bs' xs ov v' w) {b : Nat} {cs : Array Value} {t' : TypeId} {fr : Nat × Nat} (hb : w.heap[b]? = some (.cells cs t' fr)) (h1 : t' ≠ t) (h2 : t' ≠ 5) (hc : Chg (fun z => z = b) w w') : Made Wn B N a n bs' xs ov v' w' :=
  ⟨S.keep h.win hc (fun z f e => S.off h.win hb h1 h2 (e ▸ f)), ownsRow_keep h.out hc (fun g e => own_off h.out hb h2 g e), h.apart⟩
theorem Made.base {B N N' a n : Nat} {bs' xs : List Nat} {ov v' : Value} {w : World} (h : Made Wn B N a n bs' xs ov v' w) (hN : N' ≤ N) : Made Wn B N' a n bs' xs ov v' w := ⟨h.win, owns_base h.out hN, h.apart⟩
theorem put5c {W : World} {g : Nat} {v0 v1 v2 v3 v4 : Value} {t : TypeId} (h : W.heap[g]? = some (.cells #[v0, v1, v2, v3, v4] t (0, 0))) (x0 x1 x2 x3 x4 : Value) : Put5 W g v0 v1 v2 v3 v4 x0 x1 x2 x3 x4 t := put5_of h x0 x1 x2 x3 x4
end Go.Proofs.YtlnocjicmofjfaaDoor
