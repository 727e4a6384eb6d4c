/- What the landed index's Put keeps while its numbers come; of no statement by itself. -/
import Derived.Test.YtehfcfpbjenmjaaDoorIzc
import Derived.Test.YtehfcfpbjenmjaaDoorIxn
import Derived.Test.YtehfcfpbjenmjaaDoorIxj
import Derived.RangeFuncCalls
namespace Go.Proofs.YtehfcfpbjenmjaaDoor
open Go.RowKit
set_option linter.unusedVariables false
set_option linter.unusedSimpArgs false
/-- The numbers, as natural ones. -/
def numN (l : List Rec) : List Nat := l.length :: l.flatMap (fun q => [q.u.toNat, q.s.toNat])
theorem numV_N {l : List Rec} (h : ∀ q ∈ l, 0 ≤ q.u ∧ 0 ≤ q.s) : numV l = (numN l).map (fun x : Nat => Value.int .u64 (x : Int)) := by
  have key : ∀ l : List Rec, (∀ q ∈ l, 0 ≤ q.u ∧ 0 ≤ q.s) → l.flatMap (fun q => [Value.int .u64 q.u, Value.int .u64 q.s]) = (l.flatMap (fun q => [q.u.toNat, q.s.toNat])).map (fun x : Nat => Value.int .u64 (x : Int)) := fun l => by
    induction l with
    | nil => intro _; rfl
    | cons q l ih =>
      intro h
      have h1 := h q (by simp)
      rw [List.flatMap_cons, List.flatMap_cons, List.map_append, ih (fun x hx => h x (by simp [hx]))]
      simp only [List.map_cons, List.map_nil, Int.toNat_of_nonneg h1.1, Int.toNat_of_nonneg h1.2]
  unfold numV numN
  rw [List.map_cons, key l h]
theorem numN_len (l : List Rec) : (numN l).length = (numV l).length := by
  unfold numN numV
  rw [List.length_cons, List.length_cons, numV_tail]
  have : ∀ l : List Rec, (l.flatMap (fun q => [q.u.toNat, q.s.toNat])).length = 2 * l.length := fun l => by
    induction l with
    | nil => rfl
    | cons q l ih => rw [List.flatMap_cons, List.length_append, ih]; simp; omega
  rw [this]
theorem core_N (l : List Rec) : Ix23.core l = 0 :: (numN l).flatMap vbn := by
  have key : ∀ l : List Rec, (l.flatMap (fun q => [q.u.toNat, q.s.toNat])).flatMap vbn = Ix23.recs l := fun l => by
    induction l with
    | nil => rfl
    | cons q l ih => rw [List.flatMap_cons, List.flatMap_append, ih, Ix23.recs, Ix23.one]; simp
  unfold Ix23.core numN
  rw [List.flatMap_cons, key]
theorem numN_le {l : List Rec} (h : Ix23.rightB 0 0 l = true) : ∀ x ∈ numN l, x ≤ 9223372036854775807 := fun x hx => by
  obtain ⟨q1, q2, _, _, _, q6⟩ := Ix23.right_is h (by omega) (by omega)
  unfold numN at hx
  rcases List.mem_cons.1 hx with rfl | hx
  · omega
  · obtain ⟨q, hq, hx⟩ := List.mem_flatMap.1 hx
    have := q1 q hq
    simp only [List.mem_cons, List.not_mem_nil, or_false] at hx
    rcases hx with rfl | rfl <;> omega
/-- What has been laid behind k numbers. -/
def inI (l : List Rec) (k : Nat) : List Nat := 0 :: ((numN l).take k).flatMap vbn
theorem inI_next {l : List Rec} {k x : Nat} (h : (numN l)[k]? = some x) : inI l (k + 1) = inI l k ++ vbn x := by
  unfold inI
  rw [List.take_add_one, h, List.flatMap_append]
  simp
theorem inI_end (l : List Rec) : inI l (numN l).length = Ix23.core l := by
  unfold inI
  rw [List.take_length, core_N]
theorem inI_len (l : List Rec) (k : Nat) : (inI l k).length ≤ (Ix23.core l).length := by
  have e : Ix23.core l = inI l k ++ ((numN l).drop k).flatMap vbn := by
    rw [core_N]
    unfold inI
    rw [List.cons_append, ← List.flatMap_append, List.take_append_drop]
  rw [e, List.length_append]
  omega
theorem core_room {l : List Rec} (h : Ix23.rightB 0 0 l = true) (hn : l.length ≤ 8796093022208) : (Ix23.core l).length ≤ 61572651155500 := by
  have h1 := Ix23.putI_room hn
  have h2 := Ix23.putI_len h
  have h3 := Ix23.body_len l
  omega
theorem own_cells {w : World} {B size : Nat} {e : TypeId} {v : Value} {n g : Nat} {xs : List Value} (h : w.ownsRow B e size v n xs) (hg : v.ownBlock = some g) : ∃ cs t, w.heap[g]? = some (.cells cs t (0, 0)) := by
  rcases h.2 with ⟨rfl, rfl⟩ | ⟨g2, cap, cur, rfl, hb, hgg, rest⟩
  · simp [Value.ownBlock] at hg
  · simp [Value.ownBlock] at hg
    subst hg
    exact ⟨_, _, hgg⟩
/-- What holds while the numbers come. -/
structure PtI (N : Nat) (w0 : World) (l : List Rec) (ad : Option Addr) (n c wl a bx b k : Nat) (Ns : Nat → Prop) (v : Value) (W : World) : Prop where
  r0 : W.heap[N]? = some (.cells #[.slice none 0 0] 22 (0, 0))
  r1 : W.heap[N + 1]? = some (.cells #[.int .i64 0] 24 (0, 0))
  box : W.heap[bx]? = some (.cells #[.pointer (some ⟨a, 0, none⟩)] 70 (0, 0))
  nb : W.heap[b]? = some (.cells #[.slice ad n c] 23 (0, 0))
  ch : Chg (fun _ => False) w0 W
  wr : Wire.Wr (N + 2) W a v (nums (inI l k))
  ns : ∀ z, Ns z → wl ≤ z ∧ z < W.heap.size ∧ v.ownBlock ≠ some z
  sz : wl ≤ W.heap.size
  lo : w0.heap.size = N ∧ N + 2 ≤ a ∧ a < wl ∧ N + 2 ≤ bx ∧ bx < wl ∧ N + 2 ≤ b ∧ b < wl
theorem PtI.ne {N : Nat} {w0 : World} {l : List Rec} {ad : Option Addr} {n c wl a bx b k : Nat} {Ns : Nat → Prop} {v : Value} {W : World} (h : PtI N w0 l ad n c wl a bx b k Ns v W) : v.ownBlock ≠ some N ∧ v.ownBlock ≠ some (N + 1) ∧ v.ownBlock ≠ some bx ∧ v.ownBlock ≠ some b ∧ bx ≠ a ∧ b ≠ a := by
  refine ⟨row_ne h.wr.row h.r0 (by decide), row_ne h.wr.row h.r1 (by decide), row_ne h.wr.row h.box (by decide), row_ne h.wr.row h.nb (by decide), fun e => ?_, fun e => ?_⟩
  · have h1 := h.box
    rw [e, h.wr.blk] at h1
    simp at h1
  · have h1 := h.nb
    rw [e, h.wr.blk] at h1
    simp at h1
theorem PtI.go {N : Nat} {w0 : World} {l : List Rec} {ad : Option Addr} {n c wl a bx b k : Nat} {Ns : Nat → Prop} {v : Value} {W W' : World} {S : Nat → Prop} (h : PtI N w0 l ad n c wl a bx b k Ns v W) (hc : Chg S W W') (hS : ∀ z, S z → z ≠ N ∧ z ≠ N + 1 ∧ z ≠ bx ∧ z ≠ b ∧ z ≠ a ∧ v.ownBlock ≠ some z ∧ N ≤ z) : PtI N w0 l ad n c wl a bx b k Ns v W' :=
  ⟨blk_keep h.r0 hc (fun f => (hS _ f).1 rfl), blk_keep h.r1 hc (fun f => (hS _ f).2.1 rfl), blk_keep h.box hc (fun f => (hS _ f).2.2.1 rfl), blk_keep h.nb hc (fun f => (hS _ f).2.2.2.1 rfl),
   h.ch.trans hc (fun z f => .inr (by have := h.lo.1; have := (hS _ f).2.2.2.2.2.2; omega)), h.wr.keep hc (fun f => (hS _ f).2.2.2.2.1 rfl) (fun g e f => (hS _ f).2.2.2.2.2.1 e),
   fun z f => by have h9 := h.ns z f; have := hc.size; exact ⟨h9.1, by omega, h9.2.2⟩, Nat.le_trans h.sz hc.size, h.lo⟩
theorem PtI.new {N : Nat} {w0 : World} {l : List Rec} {ad : Option Addr} {n c wl a bx b k : Nat} {Ns : Nat → Prop} {v : Value} {W W' : World} (h : PtI N w0 l ad n c wl a bx b k Ns v W) (hc : Chg (fun _ => False) W W') : PtI N w0 l ad n c wl a bx b k Ns v W' := h.go hc (fun _ f => f.elim)
theorem PtI.turn {N : Nat} {w0 : World} {l : List Rec} {ad : Option Addr} {n c wl a bx b k : Nat} {Ns : Nat → Prop} {v : Value} {W W' : World} (h : PtI N w0 l ad n c wl a bx b k Ns v W) (hc : Turn wl W W') : PtI N w0 l ad n c wl a bx b k Ns v W' := h.go hc (fun z f => by
  obtain ⟨h1, o, h2, h3⟩ := f
  have key : ∀ {cs : Array Value} {t : TypeId} {y : Nat}, W.heap[y]? = some (.cells cs t (0, 0)) → z ≠ y := fun {cs t y} hy e => by
    subst e
    rw [hy] at h2
    cases h2
    cases h3
  refine ⟨key h.r0, key h.r1, key h.box, key h.nb, key h.wr.blk, fun e => ?_, by have := h.lo; omega⟩
  obtain ⟨cs, t, hcs⟩ := own_cells h.wr.row e
  exact key hcs rfl)
theorem PtI.more {N : Nat} {w0 : World} {l : List Rec} {ad : Option Addr} {n c wl a bx b k : Nat} {Ns Ns' : Nat → Prop} {v : Value} {X Y : World} (h : PtI N w0 l ad n c wl a bx b k Ns v X) (hc : Chg (fun _ => False) X Y) (g2 : ∀ z, Ns' z → Ns z ∨ X.heap.size ≤ z) (g3 : ∀ z, Ns' z → Ns z ∨ z < Y.heap.size) : PtI N w0 l ad n c wl a bx b k Ns' v Y := by
  have h2 := h.new hc
  refine ⟨h2.r0, h2.r1, h2.box, h2.nb, h2.ch, h2.wr, fun z f => ?_, h2.sz, h2.lo⟩
  rcases g2 z f with e | e
  · exact h2.ns z e
  · refine ⟨Nat.le_trans h.sz e, ?_, fun e2 => ?_⟩
    · rcases g3 z f with e3 | e3
      · have := h2.ns z e3; omega
      · exact e3
    · have := (World.ownsRow.lt h.wr.row z e2).2
      omega
theorem PtI.next {N : Nat} {w0 : World} {l : List Rec} {ad : Option Addr} {n c wl a bx b k x : Nat} {Ns : Nat → Prop} {v v' : Value} {W W' : World} (h : PtI N w0 l ad n c wl a bx b k Ns v W) (hx : (numN l)[k]? = some x) (hw : Wire.Wr (N + 2) W' a v' (nums (inI l k) ++ nums (vbn x))) (hc : Chg (Foot a v) W W') (hm : Moved W v v') : PtI N w0 l ad n c wl a bx b (k + 1) Ns v' W' := by
  obtain ⟨n1, n2, n3, n4, n5, n6⟩ := h.ne
  have hlo := h.lo
  refine ⟨blk_keep h.r0 hc ?_, blk_keep h.r1 hc ?_, blk_keep h.box hc ?_, blk_keep h.nb hc ?_, h.ch.trans hc (fun z f => .inr (by have := (h.wr.foot z f).1; omega)), ?_, fun z f => ?_, Nat.le_trans h.sz hc.size, hlo⟩
  · rintro (e | e)
    · omega
    · exact n1 e
  · rintro (e | e)
    · omega
    · exact n2 e
  · rintro (e | e)
    · exact n5 e
    · exact n3 e
  · rintro (e | e)
    · exact n6 e
    · exact n4 e
  · rw [inI_next hx, nums_app]
    exact hw
  · obtain ⟨m1, m2, m3⟩ := h.ns z f
    refine ⟨m1, by have := hc.size; omega, fun e => ?_⟩
    rcases hm z e with e2 | e2
    · exact m3 e2
    · omega
theorem PtI.calm {N : Nat} {w0 : World} {l : List Rec} {ad : Option Addr} {n c wl a bx b k : Nat} {Ns : Nat → Prop} {v : Value} {W W' : World} (h : PtI N w0 l ad n c wl a bx b k Ns v W) (hc : Chg (Foot a v) W W') : Calm Ns wl W W' := Calm.of hc (fun z f => by
  rcases f with e | e
  · subst e
    exact ⟨fun f => by have := h.ns _ f; have := h.lo; omega, .inl h.lo.2.2.1⟩
  · refine ⟨fun f => (h.ns z f).2.2 e, .inr ?_⟩
    obtain ⟨cs, t, hcs⟩ := own_cells h.wr.row e
    exact ⟨cs, t, _, hcs⟩)
end Go.Proofs.YtehfcfpbjenmjaaDoor
