/- A range over a function that hands two values a round; of no statement by itself. -/
import Derived.Test.YtkdionoelbiidaaRg
namespace Go.Proofs.Ytkdionoelbiidaa
open Go.RowKit
set_option linter.unusedVariables false

/-- An iterator: the function gf with what it has captured, ranged over from where 'Start' holds and while 'Live' does, hands vs to yield, one after the other. -/
def Iter2 (P : Program) (gf : Nat) (lb : Array Value) (vs : List (Value × Value)) (Start Live : World → Prop) : Prop :=
  ∀ (l : Nat) (J Jx : Nat → World → Prop) (W : World), (∀ k X Y, J k X → Turn W.heap.size X Y → J k Y) → (∀ k X Y, Jx k X → Turn W.heap.size X Y → Jx k Y) → (∀ X, J 0 X → Start X) → (∀ k X, J k X → Live X) →
    (∀ k X (hk : k < vs.length), J k X → YieldAt Fence.wide 0 P l #[vs[k].1, vs[k].2] X fun e X' => ((e = .returned (.bool true) ∧ J (k + 1) X') ∨ (e = .returned (.bool false) ∧ Jx (k + 1) X')) ∧ Calm (fun _ => False) W.heap.size X X') → J 0 W →
    CallsIn Fence.wide 0 P gf (#[.func (.yield l) #[] #[]] ++ lb) W fun e W' => (∃ v, e = .returned v) ∧ (J vs.length W' ∨ ∃ k, 1 ≤ k ∧ k ≤ vs.length ∧ Jx k W')

section
variable {P : Program} {g : Operand} {ps : Array Tmp} {assign body : Code} {Q : Exit → Act → World → Prop} {a : Act} {w : World}
/-- THE LAW of an outermost loop. -/
theorem wp_range2 {gf : Nat} {lb : Array Value} (hg : a.eval g = .func (.func gf) #[] lb) (eg : ∀ args w, (callFunc gf args).run P w = .ok (.enter gf args) w) {vs : List (Value × Value)} {Start Live : World → Prop} (hit : Iter2 P gf lb vs Start Live) (hps : ps.size = 2)
    (I : Nat → World → Prop) (Ix : Code → Nat → World → Prop) (Ax : Nat → Act → World → Prop) (hI : ∀ k W W', I k W → Turn w.heap.size W W' → I k W') (hIx : ∀ c k W W', Ix c k W → Turn w.heap.size W W' → Ix c k W') (hAx : ∀ k a₁ W W', Ax k a₁ W → Turn w.heap.size W W' → Ax k a₁ W')
    (hstart : ∀ W, I 0 W → Start W) (hlive : ∀ k W, I k W → Live W) (h0 : I 0 w)
    (hassign : ∀ (l k : Nat) (hk : k < vs.length) (W : World), I k W → ∀ K : Act → World → Prop, (∀ a₁ W₁, Ax k a₁ W₁ → Calm (fun _ => False) w.heap.size W W₁ → K a₁ W₁) → assign.wpIn (Fence.wide.inRound l) 0 P (Exit.then K (fun _ _ _ => False)) { tmps := (ps.zip #[vs[k].1, vs[k].2]).foldl (fun t (p, v) => t.setIfInBounds p v) a.tmps, defers := [] } W)
    (hbody : ∀ (l k : Nat) (hk : k < vs.length) (a₁ : Act) (W : World), w.heap.size ≤ l → (∃ r, W.heap[l]? = some (.loop r)) → Ax k a₁ W → body.wpIn (Fence.wide.inRound l) 0 P (RoundQ (fun _ => False) w.heap.size (I (k + 1)) (fun c => Ix c (k + 1)) W) a₁ W)
    (hdone : ∀ (D : Nat) (W : World), w.heap.size ≤ D → I vs.length W → W.heap[D]? = some (.deferred (some [])) → Q .normal { a with defers := { target := .collected D, args := #[] } :: a.defers } W)
    (hstop : ∀ (D : Nat) (c : Code) (k : Nat) (W : World), w.heap.size ≤ D → 1 ≤ k → k ≤ vs.length → Ix c k W → W.heap[D]? = some (.deferred (some [])) → c.wpIn Fence.wide 0 P Q { a with defers := { target := .collected D, args := #[] } :: a.defers } W) :
    (Code.rangeFunc g ps assign body).wpIn Fence.wide 0 P Q a w := by
  refine wpIn_rangeFunc ?_
  intro fn _
  show ∃ l mark w₁ d w₁' f args w₂, (Instr.enterLoop fn a.tmps ps assign body none).run P w = _ ∧ _
  obtain ⟨rec, hrec⟩ : ∃ rec : LoopState → Option Code → Loop, rec = fun st pe => { state := st, pending := pe, fn, tmps := a.tmps, params := ps, assign, body, defers := w.heap.size } := ⟨_, rfl⟩
  obtain ⟨W1, hW1⟩ : ∃ W1, (w.alloc (.deferred (some []))).alloc (.loop (rec .ready none)) = W1 := ⟨_, rfl⟩
  have c01 : Chg (fun _ => False) w W1 := by rw [← hW1]; exact ((Chg.refl _ w).alloc _).alloc _
  have hsz : w.heap.size + 2 = W1.heap.size := by rw [← hW1]; simp
  have hL1 : W1.heap[w.heap.size + 1]? = some (.loop (rec .ready none)) := by
    rw [← hW1]; have := World.alloc_heap_new (w.alloc (.deferred (some []))) (.loop (rec .ready none)); rwa [World.size_alloc] at this
  have hK1 : W1.heap[w.heap.size]? = some (.deferred (some [])) := by
    rw [← hW1]; exact (Below.heap_alloc _ _ _ (by simp)).trans (World.alloc_heap_new w _)
  refine ⟨w.heap.size + 1, [{ target := .collected w.heap.size, args := #[] }], W1, { target := .fn (.func gf) lb, args := #[.func (.yield (w.heap.size + 1)) #[] #[]] }, W1, gf, #[.func (.yield (w.heap.size + 1)) #[] #[]] ++ lb, W1, ?_, ?_, fun _ _ => trivial, ?_, fun h => by simp [Fence.wide] at h, ?_⟩
  · rw [← hW1, hrec]; exact run_enterLoop_outer _ _ _ _ _
  · simp only [resolve, hg]
    simp [go_sem]
  · simp [invoke, go_sem, eg]
  · refine (hit (w.heap.size + 1)
      (fun k W => I k W ∧ W.heap[w.heap.size + 1]? = some (.loop (rec .ready none)) ∧ W.heap[w.heap.size]? = some (.deferred (some [])))
      (fun k W => ∃ c, Ix c k W ∧ W.heap[w.heap.size + 1]? = some (.loop (rec .done (some c))) ∧ W.heap[w.heap.size]? = some (.deferred (some [])))
      W1 (fun k X Y h c => ⟨hI k X Y h.1 (c.up (by omega)), blk_keep h.2.1 c (fun f => by have := f.1; omega), blk_keep h.2.2 c (fun f => by have := f.1; omega)⟩)
      (fun k X Y h c => by obtain ⟨cd, h1, h2, h3⟩ := h; exact ⟨cd, hIx cd k X Y h1 (c.up (by omega)), blk_keep h2 c (fun f => by have := f.1; omega), blk_keep h3 c (fun f => by have := f.1; omega)⟩)
      (fun W h => hstart W h.1) (fun k W h => hlive k W h.1) ?_ ⟨hI 0 w W1 h0 (Turn.new c01), hL1, hK1⟩).mono ?_
    · rintro k W hk ⟨hi, hl, hd⟩
      refine YieldAt.mono (round_of (P := P) (a := a) (ps := ps) (assign := assign) (body := body) (B := w.heap.size) (l := w.heap.size + 1) (fn := fn) (rec := rec) (N := fun _ => False) (va := #[vs[k].1, vs[k].2]) (fun st pe => by rw [hrec]; exact ⟨rfl, rfl, rfl, rfl, rfl, rfl, rfl⟩) (fun _ _ _ _ => by rw [hrec]) (by omega) hps (I0 := I k) (I1 := I (k + 1)) (Ix := fun c => Ix c (k + 1)) (Ax := Ax k) (hI (k + 1)) (fun c => hIx c (k + 1)) (hAx k) hi hl (fun K hK => hassign _ k hk W hi K hK) (fun a₁ W₁ hr hx => hbody _ k hk a₁ W₁ (by omega) hr hx)) ?_
      rintro e W' (⟨rfl, h1, h2, h3⟩ | ⟨rfl, c, h1, h2, h3⟩)
      · exact ⟨.inl ⟨rfl, h1, h2, h3.at _ _ (Nat.le_refl _) (by omega) hd rfl⟩, h3.calm (by omega) (by omega) (fun f => f)⟩
      · exact ⟨.inr ⟨rfl, c, h1, h2, h3.at _ _ (Nat.le_refl _) (by omega) hd rfl⟩, h3.calm (by omega) (by omega) (fun f => f)⟩
    · rintro e W2 ⟨⟨v, rfl⟩, (⟨hi, hl, hd⟩ | ⟨k, k1, k2, c, hi, hl, hd⟩)⟩
      · have he := run_endLoop (P := P) hl (by rw [hrec]; simp)
        refine ⟨none, _, by rw [hrec] at he; exact he, hdone _ _ (Nat.le_refl _) (hI _ _ _ hi (Turn.put _ (by omega) hl rfl)) ((World.putObj_heap_other (by omega)).trans hd)⟩
      · have he := run_endLoop (P := P) hl (by rw [hrec]; simp)
        refine ⟨some c, _, by rw [hrec] at he; exact he, hstop _ c k _ (Nat.le_refl _) k1 k2 (hIx _ _ _ _ hi (Turn.put _ (by omega) hl rfl)) ((World.putObj_heap_other (by omega)).trans hd)⟩

/-- The like, where the frame is told by what it was. -/
theorem wp_range2T {gf : Nat} {lb : Array Value} (hg : a.eval g = .func (.func gf) #[] lb) (eg : ∀ args w, (callFunc gf args).run P w = .ok (.enter gf args) w) {vs : List (Value × Value)} {Start Live : World → Prop} (hit : Iter2 P gf lb vs Start Live) (hps : ps.size = 2)
    (I : Nat → World → Prop) (X : Nat → World → Prop) (Ax : Array Value → Nat → Act → World → Prop) (hI : ∀ k W W', I k W → Turn w.heap.size W W' → I k W') (hX : ∀ k W W', X k W → Turn w.heap.size W W' → X k W') (hAx : ∀ k a₁ W W', Ax a.tmps k a₁ W → Turn w.heap.size W W' → Ax a.tmps k a₁ W')
    (hstart : ∀ W, I 0 W → Start W) (hlive : ∀ k W, I k W → Live W) (h0 : I 0 w)
    (hassign : ∀ (l k : Nat) (hk : k < vs.length) (W : World), I k W → ∀ K : Act → World → Prop, (∀ a₁ W₁, Ax a.tmps k a₁ W₁ → Calm (fun _ => False) w.heap.size W W₁ → K a₁ W₁) → assign.wpIn (Fence.wide.inRound l) 0 P (Exit.then K (fun _ _ _ => False)) { tmps := (ps.zip #[vs[k].1, vs[k].2]).foldl (fun t (p, v) => t.setIfInBounds p v) a.tmps, defers := [] } W)
    (hbody : ∀ (l k : Nat) (hk : k < vs.length) (a₁ : Act) (W : World), w.heap.size ≤ l → (∃ r, W.heap[l]? = some (.loop r)) → Ax a.tmps k a₁ W → body.wpIn (Fence.wide.inRound l) 0 P (RoundQ (fun _ => False) w.heap.size (I (k + 1)) (fun c W => c = .ret ∧ X (k + 1) W) W) a₁ W)
    (hdone : ∀ (D : Nat) (W : World), w.heap.size ≤ D → I vs.length W → W.heap[D]? = some (.deferred (some [])) → Q .normal { a with defers := { target := .collected D, args := #[] } :: a.defers } W)
    (hstop : ∀ (D k : Nat) (W : World), w.heap.size ≤ D → 1 ≤ k → k ≤ vs.length → X k W → W.heap[D]? = some (.deferred (some [])) → Code.ret.wpIn Fence.wide 0 P Q { a with defers := { target := .collected D, args := #[] } :: a.defers } W) :
    (Code.rangeFunc g ps assign body).wpIn Fence.wide 0 P Q a w :=
  wp_range2 hg eg hit hps I (fun c k W => c = .ret ∧ X k W) (Ax a.tmps) hI (fun c k W W' h hc => ⟨h.1, hX k W W' h.2 hc⟩) hAx hstart hlive h0 hassign hbody hdone (fun D c k W hD h1 h2 hi hd => by
    obtain ⟨rfl, hi⟩ := hi
    exact hstop D k W hD h1 h2 hi hd)
end
end Go.Proofs.Ytkdionoelbiidaa
