/- Rows of both beside a decoder of both: a step in memory; of no statement by itself. -/
import Derived.Test.YtibgjpifmpljkaaCx
import Derived.Test.YtibgjpifmpljkaaBoundH
namespace Go.Proofs.Ytibgjpifmpljkaa
open Go.RowKit
set_option linter.unusedVariables false

theorem far_of {w : World} {z : Nat} {cs : Array Value} {t : TypeId} (h : w.heap[z]? = some (.cells cs t (0, 0))) (ht : t ≠ 70 ∧ t ≠ 81 ∧ t ≠ 105 ∧ t ≠ 3 ∧ t ≠ 23 ∧ t ≠ 83 ∧ t ≠ 58) : Far w z := ⟨cs, t, h, ht⟩
/-- The decoders of both beside the rows of both. -/
structure Red (Dec : World → Nat → Nat → Value → List Nat → Rc.D → Prop) (w0 w : World) (P : Nat) (av bv : Value) (its : List It) (a r : Nat) (v y : Value) (bs : List Nat) (d : Rc.D) : Prop where
  play : Play w0 w P av bv its
  dec : Dec w w0.heap.size a v bs d
  rdc : Rdc w w0.heap.size r y bs d
  ok : OkD bs d
  dig : Rc.Dig bs
  bl : bs.length ≤ 140737488355328
  inn : ∀ i (h : i < its.length), In31 its[i].xs
theorem Red.new {Dec : World → Nat → Nat → Value → List Nat → Rc.D → Prop} (S : DecSpec Dec) {w0 w w' : World} {P : Nat} {av bv : Value} {its : List It} {a r : Nat} {v y : Value} {bs : List Nat} {d : Rc.D} (h : Red Dec w0 w P av bv its a r v y bs d) (hc : Chg (fun _ => False) w w') : Red Dec w0 w' P av bv its a r v y bs d :=
  ⟨h.play.new hc, S.keep h.dec hc (fun f => f) (fun _ _ f => f), h.rdc.new hc, h.ok, h.dig, h.bl, h.inn⟩
/-- What a call of the program's, or of the document's, does to a decoder and a row. -/
def PGet (Dec : World → Nat → Nat → Value → List Nat → Rc.D → Prop) (F : FuncId) (args : Array Value) (B a : Nat) (v : Value) (x : It) (bs : List Nat) (d : Rc.D) (res : Value) (d' : Rc.D) (xs' : List Int) : Prop := ∀ w, Dec w B a v bs d → St w B x.a x.v x.xs → B ≤ w.heap.size → Calls Try.prog F args w fun z w' => z = .returned res ∧ Dec w' B a v bs d' ∧ St w' B x.a x.v xs' ∧ Chg (Fd a x.v) w w'
def RGet (F : FuncId) (args : Array Value) (B r : Nat) (y : Value) (x : It) (bs : List Nat) (d : Rc.D) (res : Value) (d' : Rc.D) (xs' : List Int) : Prop := ∀ w, Rdc w B r y bs d → Rt w B x.r x.n x.u x.xs → B ≤ w.heap.size → Calls Try.prog F args w fun z w' => z = .returned res ∧ Rdc w' B r y bs d' ∧ Rt w' B x.r x.n x.u xs' ∧ Chg (Fr r x.u) w w'
/-- Behind the program's step, the document's side stands as it did. -/
theorem Red.side {Dec : World → Nat → Nat → Value → List Nat → Rc.D → Prop} (S : DecSpec Dec) {w0 w w1 : World} {P : Nat} {av bv : Value} {its : List It} {a r : Nat} {v y : Value} {bs : List Nat} {d : Rc.D} (h : Red Dec w0 w P av bv its a r v y bs d) (k : Nat) (hk : k < its.length) (hc : Chg (Fd a its[k].v) w w1) : Rdc w1 w0.heap.size r y bs d ∧ Rt w1 w0.heap.size its[k].r its[k].n its[k].u its[k].xs := by
  have hG := h.play.good k hk
  obtain ⟨cs, hcs⟩ := S.blk h.dec
  have miss : ∀ {z : Nat} {c2 : Array Value} {t : TypeId}, Fd a its[k].v z → w.heap[z]? = some (.cells c2 t (0, 0)) → t ≠ 91 → t ≠ 81 → False := fun {z c2 t} f hb h1 h2 => by
    rcases f with f | f
    · rw [f] at hb; exact ty_ne hb hcs h1
    · obtain ⟨c3, h3⟩ := hG.vb f; exact ty_ne hb h3 h2
  refine ⟨h.rdc.keep hc (fun f => miss f h.rdc.blk (by decide) (by decide)) (fun g e f => ?_), hG.rt.keep hc (fun f => miss f hG.rt.blk (by decide) (by decide)) (fun g e f => ?_)⟩
  · obtain ⟨c3, h3⟩ := owns_blk h.rdc.own e; exact miss f h3 (by decide) (by decide)
  · obtain ⟨c3, h3⟩ := hG.ub e; exact miss f h3 (by decide) (by decide)
theorem Red.done {Dec : World → Nat → Nat → Value → List Nat → Rc.D → Prop} (S : DecSpec Dec) {w0 w w1 w2 : World} {P : Nat} {av bv : Value} {its : List It} {a r : Nat} {v y : Value} {bs : List Nat} {d d' : Rc.D} (h : Red Dec w0 w P av bv its a r v y bs d) (k : Nat) (hk : k < its.length) (xs' : List Int) (hc : Chg (Fd a its[k].v) w w1) (hD : Dec w1 w0.heap.size a v bs d') (hS : St w1 w0.heap.size its[k].a its[k].v xs')
    (hc2 : Chg (Fr r its[k].u) w1 w2) (hR : Rdc w2 w0.heap.size r y bs d') (hT : Rt w2 w0.heap.size its[k].r its[k].n its[k].u xs') (hO : OkD bs d') (hI : In31 xs') (hl : xs'.length = its[k].xs.length) :
    Red Dec w0 w2 P av bv (its.set k (its[k].to xs')) a r v y bs d' := by
  have hG := h.play.good k hk
  obtain ⟨cs, hcs⟩ := S.blk h.dec
  obtain ⟨cs1, hcs1⟩ := S.blk hD
  obtain ⟨hR1, hT1⟩ := h.side S k hk hc
  have miss : ∀ {z : Nat} {c2 : Array Value} {t : TypeId}, Fr r its[k].u z → w1.heap[z]? = some (.cells c2 t (0, 0)) → t ≠ 107 → t ≠ 3 → False := fun {z c2 t} f hb h1 h2 => by
    rcases f with f | f
    · rw [f] at hb; exact ty_ne hb hR1.blk h1
    · obtain ⟨c3, h3⟩ := owns_blk hT1.own f; exact ty_ne hb h3 h2
  have hD2 : Dec w2 w0.heap.size a v bs d' := S.keep hD hc2 (fun f => miss f hcs1 (by decide) (by decide)) (fun g e f => by
    obtain ⟨c3, h3⟩ := owns_blk (S.own hD) e; exact miss f h3 (by decide) (by decide))
  have hS2 : St w2 w0.heap.size its[k].a its[k].v xs' := hS.keep hc2 (fun f => miss f hS.blk (by decide) (by decide)) (fun g e f => by
    obtain ⟨c3, h3⟩ := owns_blk hS.own e; exact miss f h3 (by decide) (by decide))
  have hcc : Chg (fun z => Fd a its[k].v z ∨ Fr r its[k].u z) w w2 := (hc.mono (T := fun z => Fd a its[k].v z ∨ Fr r its[k].u z) (fun z f => .inl (.inl f))).trans hc2 (fun z f => .inl (.inr f))
  refine ⟨h.play.putE k hk hcc (fun z f => ?_) (fun z f => ?_) xs' ⟨hS2, hT, hI.inn, by show xs'.length ≤ _; rw [hl]; exact hG.len⟩, hD2, hR, hO, h.dig, h.bl, fun i hi => ?_⟩
  · rcases f with (f | f) | (f | f)
    · rw [f]; exact .inr (far_of hcs (by decide))
    · exact .inl (.inl f)
    · rw [f]; exact .inr (far_of h.rdc.blk (by decide))
    · exact .inl (.inr f)
  · rcases f with (f | f) | (f | f)
    · rw [f]; exact S.base h.dec
    · exact (hG.st.own.lt z f).1
    · rw [f]; exact h.rdc.hr
    · exact (hG.rt.own.lt z f).1
  · by_cases ei : i = k
    · subst ei
      rw [List.getElem_set_self]
      exact hI
    · rw [List.getElem_set_ne (fun x => ei x.symm)]
      exact h.inn i (by simpa using hi)
end Go.Proofs.Ytibgjpifmpljkaa
