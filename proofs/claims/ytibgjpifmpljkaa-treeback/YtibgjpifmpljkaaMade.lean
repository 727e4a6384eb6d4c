/- One more row, made: the contract of made; of no statement by itself. -/
import Derived.Test.YtibgjpifmpljkaaBoundA
namespace Go.Proofs.Ytibgjpifmpljkaa
open Go.RowKit
set_option linter.unusedVariables false

theorem infoPS : (Try.prog.info? 23).map (fun i => (i.zero, i.size, i.bytes)) = some (some (.pointer none), 1, 8) := by kernel_rfl
theorem infoPR : (Try.prog.info? 83).map (fun i => (i.zero, i.size, i.bytes)) = some (some (.pointer none), 1, 8) := by kernel_rfl

theorem from_one (w : World) (x : Value) (t : TypeId) : From (w.alloc (.cells #[x] t)) (some ⟨w.heap.size, 0, none⟩) 1 1 1 [x] := by
  refine ⟨rfl, .inr ⟨_, rfl, fun j u hu => ?_⟩⟩
  have hb : (w.alloc (.cells #[x] t)).heap[w.heap.size]? = some (.cells #[x] t (0, 0)) := heap_alloc_last _ _
  match j, hu with
  | 0, hu =>
    simp at hu
    subst hu
    rw [addk]
    exact cell00 hb

theorem set_size (w : World) (p : Addr) (v : Value) : (w.setCell p v).heap.size = w.heap.size := by simp [World.setCell]
theorem from_set (w : World) (P : Nat) (v x : Value) (t : TypeId) : From ((w.setCell ⟨P, 0, none⟩ v).alloc (.cells #[x] t)) (some ⟨w.heap.size, 0, none⟩) 1 1 1 [x] := by
  have h := from_one (w.setCell ⟨P, 0, none⟩ v) x t
  rw [set_size] at h
  exact h

/-- The pair of lists, whatever is in them. -/
structure Two (w0 w : World) (P : Nat) (av bv : Value) (la lb : List Value) : Prop where
  pair : w.heap[P]? = some (.cells #[av, bv] 58 (0, 0))
  ra : w.ownsRow w0.heap.size 23 1 av la.length la
  rb : w.ownsRow w0.heap.size 83 1 bv lb.length lb

theorem Play.two {w0 w : World} {P : Nat} {av bv : Value} {its : List It} (h : Play w0 w P av bv its) : Two w0 w P av bv (its.map ptrA) (its.map ptrR) :=
  ⟨h.pair, by simpa using h.ra, by simpa using h.rb⟩
theorem Two.new {w0 w w' : World} {P : Nat} {av bv : Value} {la lb : List Value} (h : Two w0 w P av bv la lb) (hc : Chg (fun _ => False) w w') : Two w0 w' P av bv la lb :=
  ⟨blk_keep h.pair hc (fun f => f), ownsRow_keep h.ra hc (fun _ _ f => f), ownsRow_keep h.rb hc (fun _ _ f => f)⟩

/-- One more in the first list. -/
theorem Two.a {w0 w w1 w3 : World} {P : Nat} {av bv v3 x : Value} {la lb : List Value} (h : Two w0 w P av bv la lb) (c1 : Chg (fun _ => False) w w1) (ho : w3.ownsRow w0.heap.size 23 1 v3 (la.length + 1) (la ++ [x])) (hg : w1.grownBy w3 av.ownBlock) :
    w3.heap[P]? = some (.cells #[av, bv] 58 (0, 0)) ∧ Two w0 (w3.setCell ⟨P, 0, none⟩ v3) P v3 bv (la ++ [x]) lb ∧ Chg (Grows P av bv) w (w3.setCell ⟨P, 0, none⟩ v3) := by
  have h1 := h.new c1
  have c3 : Chg (fun z => av.ownBlock = some z) w1 w3 := (Chg.refl _ w1).grown hg (fun k e => .inl e)
  have hp3 : w3.heap[P]? = some (.cells #[av, bv] 58 (0, 0)) := blk_keep h1.pair c3 (fun e => by obtain ⟨cur, hcur⟩ := owns_blk h1.ra e; exact ty_ne hcur h1.pair (by decide))
  have hb3 : w3.ownsRow w0.heap.size 83 1 bv lb.length lb := ownsRow_keep h1.rb c3 (fun g e e2 => by obtain ⟨cur, hcur⟩ := owns_blk h1.rb e; obtain ⟨cur2, hcur2⟩ := owns_blk h1.ra e2; exact ty_ne hcur hcur2 (by decide))
  have cs : Chg (fun z => z = P) w3 (w3.setCell ⟨P, 0, none⟩ v3) := (Chg.refl (fun z => z = P) w3).setCell (p := ⟨P, 0, none⟩) (.inl rfl) _
  refine ⟨hp3, ⟨blk_set0 hp3, ?_, ?_⟩, ?_⟩
  · rw [List.length_append]
    exact ownsRow_keep ho cs (fun g e e2 => by obtain ⟨cur, hcur⟩ := owns_blk ho e; rw [e2] at hcur; exact ty_ne hcur hp3 (by decide))
  · exact ownsRow_keep hb3 cs (fun g e e2 => by obtain ⟨cur, hcur⟩ := owns_blk hb3 e; rw [e2] at hcur; exact ty_ne hcur hp3 (by decide))
  · exact ((c1.mono (T := Grows P av bv) (fun _ f => f.elim)).trans c3 (fun i e => .inl (.inr (.inl e)))).trans cs (fun i e => .inl (.inl e))

/-- One more in the second list. -/
theorem Two.b {w0 w w1 w3 : World} {P : Nat} {av bv v3 x : Value} {la lb : List Value} (h : Two w0 w P av bv la lb) (c1 : Chg (fun _ => False) w w1) (ho : w3.ownsRow w0.heap.size 83 1 v3 (lb.length + 1) (lb ++ [x])) (hg : w1.grownBy w3 bv.ownBlock) :
    w3.heap[P]? = some (.cells #[av, bv] 58 (0, 0)) ∧ Two w0 (w3.setCell ⟨P, 1, none⟩ v3) P av v3 la (lb ++ [x]) ∧ Chg (fun z => z = P ∨ bv.ownBlock = some z) w (w3.setCell ⟨P, 1, none⟩ v3) := by
  have h1 := h.new c1
  have c3 : Chg (fun z => bv.ownBlock = some z) w1 w3 := (Chg.refl _ w1).grown hg (fun k e => .inl e)
  have hp3 : w3.heap[P]? = some (.cells #[av, bv] 58 (0, 0)) := blk_keep h1.pair c3 (fun e => by obtain ⟨cur, hcur⟩ := owns_blk h1.rb e; exact ty_ne hcur h1.pair (by decide))
  have ha3 : w3.ownsRow w0.heap.size 23 1 av la.length la := ownsRow_keep h1.ra c3 (fun g e e2 => by obtain ⟨cur, hcur⟩ := owns_blk h1.ra e; obtain ⟨cur2, hcur2⟩ := owns_blk h1.rb e2; exact ty_ne hcur hcur2 (by decide))
  have cs : Chg (fun z => z = P) w3 (w3.setCell ⟨P, 1, none⟩ v3) := (Chg.refl (fun z => z = P) w3).setCell (p := ⟨P, 1, none⟩) (.inl rfl) _
  refine ⟨hp3, ⟨blk_set1 hp3, ?_, ?_⟩, ?_⟩
  · exact ownsRow_keep ha3 cs (fun g e e2 => by obtain ⟨cur, hcur⟩ := owns_blk ha3 e; rw [e2] at hcur; exact ty_ne hcur hp3 (by decide))
  · rw [List.length_append]
    exact ownsRow_keep ho cs (fun g e e2 => by obtain ⟨cur, hcur⟩ := owns_blk ho e; rw [e2] at hcur; exact ty_ne hcur hp3 (by decide))
  · exact ((c1.mono (T := fun z => z = P ∨ bv.ownBlock = some z) (fun _ f => f.elim)).trans c3 (fun i e => .inl (.inr e))).trans cs (fun i e => .inl (.inl e))

theorem one_ptr (x : Value) (h : x.oneCell' = true) : ∀ u ∈ [x], u.oneCell' = true := fun u hu => by simp at hu; subst hu; exact h

end Go.Proofs.Ytibgjpifmpljkaa
