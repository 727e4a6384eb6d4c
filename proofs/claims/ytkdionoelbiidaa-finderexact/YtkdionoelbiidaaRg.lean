/- Ranges over a function, at the wide fence: what an iterator is asked ('Iter'), and the law of the loop over it, alone and within a round of another loop; of no statement by themselves. -/
import Derived.Test.YtkdionoelbiidaaMem
import Derived.RangeFuncNested
import Derived.RangeFuncLeaves
import Derived.RangeFuncBound
namespace Go.Proofs.Ytkdionoelbiidaa
open Go.RowKit
set_option linter.unusedVariables false

/-- Of the blocks that were there, only such as were laid from B on and hold no cells may have turned. -/
def Turn (B : Nat) (w w' : World) : Prop := Chg (fun z => B ≤ z ∧ ∃ o : Obj, w.heap[z]? = some o ∧ o.isCells = false) w w'
theorem Turn.new {B : Nat} {w w' : World} (h : Chg (fun _ => False) w w') : Turn B w w' := h.mono (fun _ f => f.elim)
theorem chg_put (w : World) (l : Nat) (o : Obj) : Chg (fun z => z = l) w (w.putObj l o) := ⟨rfl, rfl, rfl, by simp, fun k _ hk => World.putObj_heap_other hk⟩
theorem Turn.put {B : Nat} {w : World} {l : Nat} {o : Obj} (o' : Obj) (hB : B ≤ l) (h : w.heap[l]? = some o) (ho : o.isCells = false) : Turn B w (w.putObj l o') := (chg_put w l o').mono (fun z e => .inl (by subst e; exact ⟨hB, o, h, ho⟩))
theorem Turn.up {B B' : Nat} {W W' : World} (h : Turn B' W W') (hB : B ≤ B') : Turn B W W' := h.mono (fun z f => .inl ⟨Nat.le_trans hB f.1, f.2⟩)
/-- What is kept by it: a block of cells, or one that was laid ahead of B. -/
theorem Turn.cells {B : Nat} {w w' : World} (h : Turn B w w') {z : Nat} {cs : Array Value} {t : TypeId} {fz : Nat × Nat} (hz : w.heap[z]? = some (.cells cs t fz)) : w'.heap[z]? = some (.cells cs t fz) :=
  blk_keep hz h (fun f => by obtain ⟨_, o, h1, h2⟩ := f; rw [hz] at h1; cases h1; cases h2)

/-- What lies in N, and what was laid from B on and holds no cells, is as it was. -/
def Calm (N : Nat → Prop) (B : Nat) (W W' : World) : Prop := Chg (fun z => ¬ (N z ∨ (B ≤ z ∧ ∃ o : Obj, W.heap[z]? = some o ∧ o.isCells = false))) W W'
theorem Calm.of {N : Nat → Prop} {B : Nat} {S : Nat → Prop} {W W' : World} (h : Chg S W W') (hS : ∀ z, S z → ¬ N z ∧ (z < B ∨ ∃ cs t fz, W.heap[z]? = some (.cells cs t fz))) : Calm N B W W' := h.mono (fun z s => .inl (fun f => by
  rcases f with f | ⟨f1, o, f2, f3⟩
  · exact (hS z s).1 f
  · rcases (hS z s).2 with e | ⟨cs, t, fz, e⟩
    · omega
    · rw [e] at f2; cases f2; cases f3))
theorem Calm.new {N : Nat → Prop} {B : Nat} {W W' : World} (h : Chg (fun _ => False) W W') : Calm N B W W' := Calm.of h (fun _ f => f.elim)
theorem Calm.keep {N : Nat → Prop} {B : Nat} {W W' : World} (h : Calm N B W W') {z : Nat} {o : Obj} (hz : B ≤ z) (ho : W.heap[z]? = some o) (hc : o.isCells = false) : W'.heap[z]? = some o := blk_keep ho h (fun f => f (.inr ⟨hz, o, ho, hc⟩))
theorem Calm.own {N : Nat → Prop} {B : Nat} {W W' : World} (h : Calm N B W W') {z : Nat} {o : Obj} (hz : N z) (ho : W.heap[z]? = some o) : W'.heap[z]? = some o := blk_keep ho h (fun f => f (.inl hz))
theorem Calm.trans {N : Nat → Prop} {B : Nat} {W W' W2 : World} (h : Calm N B W W') (k : Calm N B W' W2) : Calm N B W W2 :=
  ⟨k.os.trans h.os, k.tape.trans h.tape, k.output.trans h.output, Nat.le_trans h.size k.size, fun i hi hS => by
    have hn : N i ∨ (B ≤ i ∧ ∃ o : Obj, W.heap[i]? = some o ∧ o.isCells = false) := Classical.byContradiction hS
    rcases hn with hN | ⟨h1, o, h2, h3⟩
    · have e : W.heap[i]? = some W.heap[i] := Array.getElem?_eq_getElem hi
      rw [k.own hN (h.own hN e), e]
    · rw [k.keep h1 (h.keep h1 h2 h3) h3, h2]⟩
theorem Calm.up {N : Nat → Prop} {B B' : Nat} {W W' : World} (h : Calm N B W W') (hB : B ≤ B') : Calm N B' W W' := Chg.mono h (fun z f => .inl (fun g => f (g.imp id (fun g => ⟨Nat.le_trans hB g.1, g.2⟩))))
/-- Less is held; more is held, of what is new. -/
theorem Calm.less {N N' : Nat → Prop} {B : Nat} {W W' : World} (h : Calm N' B W W') (hN : ∀ z, N z → N' z) : Calm N B W W' := Chg.mono h (fun z f => .inl (fun g => f (g.imp (hN z) id)))
theorem Calm.more {N N' : Nat → Prop} {B : Nat} {W W' : World} (h : Calm N B W W') {V : World} (hV : W.heap.size ≤ V.heap.size) (hN : ∀ z, N' z → N z ∨ V.heap.size ≤ z) : Calm N' B W W' := Chg.mono h (fun z f => by
  by_cases g : W.heap.size ≤ z
  · exact .inr g
  · exact .inl (fun k => f (k.imp (fun e => (hN z e).resolve_right (by omega)) id)))
/-- An iterator: the function gf with what it has captured, ranged over from where 'Start' holds and while 'Live' does, hands vs to yield, one after the other; what it lays of its own ahead of the first is left to it. -/
def Iter (P : Program) (gf : Nat) (lb : Array Value) (vs : List Value) (Start Live : World → Prop) : Prop :=
  ∀ (l : Nat) (J Jx : (Nat → Prop) → Nat → World → Prop) (W : World) (N0 : Nat → Prop), (∀ N k X Y, J N k X → Turn W.heap.size X Y → J N k Y) → (∀ N k X Y, Jx N k X → Turn W.heap.size X Y → Jx N k Y) → (∀ N N' X Y, J N 0 X → Chg (fun _ => False) X Y → (∀ z, N z → N' z) → (∀ z, N' z → N z ∨ X.heap.size ≤ z) → (∀ z, N' z → N z ∨ z < Y.heap.size) → J N' 0 Y) → (∀ N X, J N 0 X → Start X) → (∀ N k X, J N k X → Live X) →
    (∀ N k X (hk : k < vs.length), J N k X → YieldAt Fence.wide 0 P l #[vs[k]] X fun e X' => ((e = .returned (.bool true) ∧ J N (k + 1) X') ∨ (e = .returned (.bool false) ∧ Jx N (k + 1) X')) ∧ Calm N W.heap.size X X') → J N0 0 W →
    CallsIn Fence.wide 0 P gf (#[.func (.yield l) #[] #[]] ++ lb) W fun e W' => (∃ v, e = .returned v) ∧ ∃ N, (∀ z, N0 z → N z) ∧ (J N vs.length W' ∨ ∃ k, 1 ≤ k ∧ k ≤ vs.length ∧ Jx N k W')

/-- How a round may be left. -/
def RoundQ (N : Nat → Prop) (B : Nat) (I : World → Prop) (Ix : Code → World → Prop) (W : World) : Exit → Act → World → Prop
  | .normal, _, W' => Calm N B W W' ∧ I W'
  | .ret, _, W' => Calm N B W W' ∧ Ix .ret W'
  | .exit id, _, W' => Calm N B W W' ∧ Ix (.exit id) W'
  | .goto t, _, W' => Calm N B W W' ∧ Ix (.goto t) W'
  | .panic _, _, _ => False
  | .outgrown, _, _ => False

/-- Beside l nothing that lies in N, or was laid from B on and holds no cells, has turned. -/
def Beside (N : Nat → Prop) (B l : Nat) (W W' : World) : Prop := Chg (fun z => z = l ∨ ¬ (N z ∨ (B ≤ z ∧ ∃ o : Obj, W.heap[z]? = some o ∧ o.isCells = false))) W W'
theorem Beside.at {N : Nat → Prop} {B l : Nat} {W W' : World} (h : Beside N B l W W') : ∀ z o, B ≤ z → z ≠ l → W.heap[z]? = some o → o.isCells = false → W'.heap[z]? = some o := fun z o h1 h2 h3 h4 => blk_keep h3 h (fun f => f.elim h2 (fun g => g (.inr ⟨h1, o, h3, h4⟩)))
theorem Beside.calm {N : Nat → Prop} {B l B' : Nat} {W W' : World} (h : Beside N B l W W') (h1 : B ≤ B') (h2 : l < B') (h3 : ¬ N l) : Calm N B' W W' := Chg.mono h (fun z f => .inl (fun g => f.elim (fun e => g.elim (fun n => h3 (e ▸ n)) (fun g => by have := g.1; omega)) (fun k => k (g.imp id (fun g => ⟨Nat.le_trans h1 g.1, g.2⟩)))))
section
variable {P : Program} {g : Operand} {ps : Array Tmp} {assign body : Code} {Q : Exit → Act → World → Prop} {a : Act} {w : World}

/-- One round of a loop whose record lies at l, out of the walks of its two codes. -/
theorem round_of {N : Nat → Prop} {B l fn : Nat} {rec : LoopState → Option Code → Loop} (hrec : ∀ st pe, (rec st pe).state = st ∧ (rec st pe).pending = pe ∧ (rec st pe).fn = fn ∧ (rec st pe).tmps = a.tmps ∧ (rec st pe).params = ps ∧ (rec st pe).assign = assign ∧ (rec st pe).body = body) (hset : ∀ st pe st' pe', { rec st pe with state := st', pending := pe' } = rec st' pe') (hBl : B ≤ l)
    {va : Array Value} (hps : ps.size = va.size) {I0 I1 : World → Prop} {Ix : Code → World → Prop} {Ax : Act → World → Prop} (hI1 : ∀ W W', I1 W → Turn B W W' → I1 W') (hIx : ∀ c W W', Ix c W → Turn B W W' → Ix c W') (hAx : ∀ a₁ W W', Ax a₁ W → Turn B W W' → Ax a₁ W')
    {W : World} (hI : I0 W) (hl : W.heap[l]? = some (.loop (rec .ready none)))
    (hassign : ∀ K : Act → World → Prop, (∀ a₁ W₁, Ax a₁ W₁ → Calm N B W W₁ → K a₁ W₁) → assign.wpIn (Fence.wide.inRound l) 0 P (Exit.then K (fun _ _ _ => False)) { tmps := (ps.zip va).foldl (fun t (p, v) => t.setIfInBounds p v) a.tmps, defers := [] } W)
    (hbody : ∀ a₁ W₁, (∃ r, W₁.heap[l]? = some (.loop r)) → Ax a₁ W₁ → body.wpIn (Fence.wide.inRound l) 0 P (RoundQ N B I1 Ix W₁) a₁ W₁) :
    YieldAt Fence.wide 0 P l va W fun e W' => (e = .returned (.bool true) ∧ I1 W' ∧ W'.heap[l]? = some (.loop (rec .ready none)) ∧ Beside N B l W W') ∨ (e = .returned (.bool false) ∧ ∃ c, Ix c W' ∧ W'.heap[l]? = some (.loop (rec .done (some c))) ∧ Beside N B l W W') := by
  obtain ⟨_, _, hfn0, htm, hpa, has, hbo⟩ := hrec .ready none
  have hy := run_yield (P := P) (args := va) hl (by rw [hpa, hps])
  rw [hfn0, htm, hpa, has, hbo] at hy
  refine ⟨fn, _, assign, body, hy, roundIn_of_wpIn trivial (hassign _ ?_)⟩
  intro a₁ W₁ hax c1
  have hl1 := Calm.keep c1 hBl hl rfl
  have hlt1 := lt_of_blk hl1
  have hbusy : ({ rec .ready none with state := .busy } : Loop) = rec .busy none := by
    have := hset .ready none .busy none
    rw [← this]
    have h2 := (hrec .ready none).2.1
    cases hr : rec .ready none
    rw [hr] at h2
    simp at h2
    simp [h2]
  have hbr := run_beginRound (P := P) hl1 (hrec .ready none).1
  rw [hbusy] at hbr
  refine ⟨_, hbr, ?_⟩
  have hl2 : (W₁.putObj l (.loop (rec .busy none))).heap[l]? = some (.loop (rec .busy none)) := World.putObj_heap_same hlt1
  refine wpIn_mono (hbody a₁ _ ⟨_, hl2⟩ (hAx _ _ _ hax (Turn.put _ hBl hl1 rfl))) ?_
  have fin : ∀ (jump : Option Code) (W3 : World), Calm N B (W₁.putObj l (.loop (rec .busy none))) W3 →
      (Instr.endRound l jump).run P W3 = .ok (.bool jump.isNone) (W3.putObj l (.loop (rec (if jump.isNone then .ready else .done) jump))) ∧ Turn B W3 (W3.putObj l (.loop (rec (if jump.isNone then .ready else .done) jump))) ∧
      (W3.putObj l (.loop (rec (if jump.isNone then .ready else .done) jump))).heap[l]? = some (.loop (rec (if jump.isNone then .ready else .done) jump)) ∧ Beside N B l W (W3.putObj l (.loop (rec (if jump.isNone then .ready else .done) jump))) := fun jump W3 c3 => by
    have hl3 := Calm.keep c3 hBl hl2 rfl
    have hr := run_endRound (P := P) jump hl3
    rw [hset] at hr
    refine ⟨hr, Turn.put _ hBl hl3 rfl, World.putObj_heap_same (lt_of_blk hl3), ?_⟩
    refine ⟨c3.os.trans c1.os, c3.tape.trans c1.tape, c3.output.trans c1.output, ?_, fun i hi hS => ?_⟩
    · have e1 := c1.size
      have e3 := c3.size
      simp only [World.putObj] at e3 ⊢
      simp at e3 ⊢
      omega
    · have hzl : i ≠ l := fun e => hS (.inl e)
      have hn : N i ∨ (B ≤ i ∧ ∃ o : Obj, W.heap[i]? = some o ∧ o.isCells = false) := Classical.byContradiction (fun f => hS (.inr f))
      rcases hn with hN | ⟨hz, o, ho, hc⟩
      · have ho : W.heap[i]? = some W.heap[i] := Array.getElem?_eq_getElem hi
        have e2 := (World.putObj_heap_other (o := .loop (rec .busy none)) (w := W₁) hzl).trans (Calm.own c1 hN ho)
        exact ((World.putObj_heap_other hzl).trans (Calm.own c3 hN e2)).trans ho.symm
      · have e1 := Calm.keep c1 hz ho hc
        have e2 := (World.putObj_heap_other (o := .loop (rec .busy none)) (w := W₁) hzl).trans e1
        exact ((World.putObj_heap_other hzl).trans (Calm.keep c3 hz e2 hc)).trans ho.symm
  rintro e a3 W3 hp
  cases e with
  | normal =>
    obtain ⟨c3, hi3⟩ := hp
    obtain ⟨h1, h2, h3, h4⟩ := fin none W3 c3
    exact ⟨_, _, h1, .inl ⟨rfl, hI1 _ _ hi3 h2, h3, h4⟩⟩
  | ret =>
    obtain ⟨c3, hi3⟩ := hp
    obtain ⟨h1, h2, h3, h4⟩ := fin (some .ret) W3 c3
    exact ⟨_, _, h1, .inr ⟨rfl, .ret, hIx _ _ _ hi3 h2, h3, h4⟩⟩
  | exit id =>
    obtain ⟨c3, hi3⟩ := hp
    obtain ⟨h1, h2, h3, h4⟩ := fin (some (.exit id)) W3 c3
    exact ⟨_, _, h1, .inr ⟨rfl, .exit id, hIx _ _ _ hi3 h2, h3, h4⟩⟩
  | goto t =>
    obtain ⟨c3, hi3⟩ := hp
    obtain ⟨h1, h2, h3, h4⟩ := fin (some (.goto t)) W3 c3
    exact ⟨_, _, h1, .inr ⟨rfl, .goto t, hIx _ _ _ hi3 h2, h3, h4⟩⟩
  | panic ch => exact hp.elim
  | outgrown => exact hp.elim

/-- THE LAW of an outermost loop. -/
theorem wp_range {gf : Nat} {lb : Array Value} (hg : a.eval g = .func (.func gf) #[] lb) (eg : ∀ args w, (callFunc gf args).run P w = .ok (.enter gf args) w) {vs : List Value} {Start Live : World → Prop} (hit : Iter P gf lb vs Start Live) (hps : ps.size = 1)
    (N0 : Nat → Prop) (I : (Nat → Prop) → Nat → World → Prop) (Ix : Code → (Nat → Prop) → Nat → World → Prop) (Ax : (Nat → Prop) → Nat → Act → World → Prop) (hI : ∀ N k W W', I N k W → Turn w.heap.size W W' → I N k W') (hIx : ∀ c N k W W', Ix c N k W → Turn w.heap.size W W' → Ix c N k W') (hAx : ∀ N k a₁ W W', Ax N k a₁ W → Turn w.heap.size W W' → Ax N k a₁ W')
    (hmore : ∀ N N' X Y, I N 0 X → Chg (fun _ => False) X Y → (∀ z, N z → N' z) → (∀ z, N' z → N z ∨ X.heap.size ≤ z) → (∀ z, N' z → N z ∨ z < Y.heap.size) → I N' 0 Y) (hN0 : ∀ z, N0 z → z < w.heap.size)
    (hstart : ∀ N W, I N 0 W → Start W) (hlive : ∀ N k W, I N k W → Live W) (h0 : I N0 0 w)
    (hassign : ∀ (N : Nat → Prop) (l k : Nat) (hk : k < vs.length) (W : World), I N k W → ∀ K : Act → World → Prop, (∀ a₁ W₁, Ax N k a₁ W₁ → Calm N w.heap.size W W₁ → K a₁ W₁) → assign.wpIn (Fence.wide.inRound l) 0 P (Exit.then K (fun _ _ _ => False)) { tmps := (ps.zip #[vs[k]]).foldl (fun t (p, v) => t.setIfInBounds p v) a.tmps, defers := [] } W)
    (hbody : ∀ (N : Nat → Prop) (l k : Nat) (hk : k < vs.length) (a₁ : Act) (W : World), w.heap.size ≤ l → (∃ r, W.heap[l]? = some (.loop r)) → Ax N k a₁ W → body.wpIn (Fence.wide.inRound l) 0 P (RoundQ N w.heap.size (I N (k + 1)) (fun c => Ix c N (k + 1)) W) a₁ W)
    (hdone : ∀ (N : Nat → Prop) (D : Nat) (W : World), (∀ z, N0 z → N z) → w.heap.size ≤ D → I N vs.length W → W.heap[D]? = some (.deferred (some [])) → Q .normal { a with defers := { target := .collected D, args := #[] } :: a.defers } W)
    (hstop : ∀ (N : Nat → Prop) (D : Nat) (c : Code) (k : Nat) (W : World), (∀ z, N0 z → N z) → w.heap.size ≤ D → 1 ≤ k → k ≤ vs.length → Ix c N k W → W.heap[D]? = some (.deferred (some [])) → c.wpIn Fence.wide 0 P Q { a with defers := { target := .collected D, args := #[] } :: a.defers } W) :
    (Code.rangeFunc g ps assign body).wpIn Fence.wide 0 P Q a w := by
  refine wpIn_rangeFunc ?_
  intro fn _
  show ∃ l mark w₁ d w₁' f args w₂, (Instr.enterLoop fn a.tmps ps assign body none).run P w = _ ∧ _
  obtain ⟨rec, hrec⟩ : ∃ rec : LoopState → Option Code → Loop, rec = fun st pe => { state := st, pending := pe, fn, tmps := a.tmps, params := ps, assign, body, defers := w.heap.size } := ⟨_, rfl⟩
  obtain ⟨W1, hW1⟩ : ∃ W1, (w.alloc (.deferred (some []))).alloc (.loop (rec .ready none)) = W1 := ⟨_, rfl⟩
  have c01 : Chg (fun _ => False) w W1 := by rw [← hW1]; exact ((Chg.refl _ w).alloc _).alloc _
  have hsz : w.heap.size + 2 = W1.heap.size := by rw [← hW1]; simp
  have hL1 : W1.heap[w.heap.size + 1]? = some (.loop (rec .ready none)) := by
    rw [← hW1]; have := World.alloc_heap_new (w.alloc (.deferred (some []))) (.loop (rec .ready none)); rwa [World.size_alloc] at this
  have hK1 : W1.heap[w.heap.size]? = some (.deferred (some [])) := by
    rw [← hW1]; exact (Below.heap_alloc _ _ _ (by simp)).trans (World.alloc_heap_new w _)
  refine ⟨w.heap.size + 1, [{ target := .collected w.heap.size, args := #[] }], W1, { target := .fn (.func gf) lb, args := #[.func (.yield (w.heap.size + 1)) #[] #[]] }, W1, gf, #[.func (.yield (w.heap.size + 1)) #[] #[]] ++ lb, W1, ?_, ?_, fun _ _ => trivial, ?_, fun h => by simp [Fence.wide] at h, ?_⟩
  · rw [← hW1, hrec]; exact run_enterLoop_outer _ _ _ _ _
  · simp only [resolve, hg]
    simp [go_sem]
  · simp [invoke, go_sem, eg]
  · refine (hit (w.heap.size + 1)
      (fun N k W => (I N k W ∧ ¬ N (w.heap.size + 1)) ∧ W.heap[w.heap.size + 1]? = some (.loop (rec .ready none)) ∧ W.heap[w.heap.size]? = some (.deferred (some [])))
      (fun N k W => ∃ c, Ix c N k W ∧ W.heap[w.heap.size + 1]? = some (.loop (rec .done (some c))) ∧ W.heap[w.heap.size]? = some (.deferred (some [])))
      W1 N0 (fun N k X Y h c => ⟨⟨hI N k X Y h.1.1 (c.up (by omega)), h.1.2⟩, blk_keep h.2.1 c (fun f => by have := f.1; omega), blk_keep h.2.2 c (fun f => by have := f.1; omega)⟩)
      (fun N k X Y h c => by obtain ⟨cd, h1, h2, h3⟩ := h; exact ⟨cd, hIx cd N k X Y h1 (c.up (by omega)), blk_keep h2 c (fun f => by have := f.1; omega), blk_keep h3 c (fun f => by have := f.1; omega)⟩)
      (fun N N' X Y h c h1 h2 h3 => ⟨⟨hmore N N' X Y h.1.1 c h1 h2 h3, fun f => (h2 _ f).elim h.1.2 (fun e => by have := lt_of_blk h.2.1; omega)⟩, blk_keep h.2.1 c (fun f => f), blk_keep h.2.2 c (fun f => f)⟩)
      (fun N W h => hstart N W h.1.1) (fun N k W h => hlive N k W h.1.1) ?_ ⟨⟨hI N0 0 w W1 h0 (Turn.new c01), fun f => by have := hN0 _ f; omega⟩, hL1, hK1⟩).mono ?_
    · rintro N k W hk ⟨⟨hi, hnl⟩, hl, hd⟩
      refine YieldAt.mono (round_of (P := P) (a := a) (ps := ps) (assign := assign) (body := body) (B := w.heap.size) (l := w.heap.size + 1) (fn := fn) (rec := rec) (va := #[vs[k]]) (fun st pe => by rw [hrec]; exact ⟨rfl, rfl, rfl, rfl, rfl, rfl, rfl⟩) (fun _ _ _ _ => by rw [hrec]) (by omega) hps (N := N) (I0 := I N k) (I1 := I N (k + 1)) (Ix := fun c => Ix c N (k + 1)) (Ax := Ax N k) (hI N (k + 1)) (fun c => hIx c N (k + 1)) (hAx N k) hi hl (fun K hK => hassign N _ k hk W hi K hK) (fun a₁ W₁ hr hx => hbody N _ k hk a₁ W₁ (by omega) hr hx)) ?_
      rintro e W' (⟨rfl, h1, h2, h3⟩ | ⟨rfl, c, h1, h2, h3⟩)
      · exact ⟨.inl ⟨rfl, ⟨h1, hnl⟩, h2, h3.at _ _ (Nat.le_refl _) (by omega) hd rfl⟩, h3.calm (by omega) (by omega) hnl⟩
      · exact ⟨.inr ⟨rfl, c, h1, h2, h3.at _ _ (Nat.le_refl _) (by omega) hd rfl⟩, h3.calm (by omega) (by omega) hnl⟩
    · rintro e W2 ⟨⟨v, rfl⟩, N, hsub, (⟨⟨hi, hnl⟩, hl, hd⟩ | ⟨k, k1, k2, c, hi, hl, hd⟩)⟩
      · have he := run_endLoop (P := P) hl (by rw [hrec]; simp)
        refine ⟨none, _, by rw [hrec] at he; exact he, hdone N _ _ hsub (Nat.le_refl _) (hI _ _ _ _ hi (Turn.put _ (by omega) hl rfl)) ((World.putObj_heap_other (by omega)).trans hd)⟩
      · have he := run_endLoop (P := P) hl (by rw [hrec]; simp)
        refine ⟨some c, _, by rw [hrec] at he; exact he, hstop N _ c k _ hsub (Nat.le_refl _) k1 k2 (hIx _ _ _ _ _ hi (Turn.put _ (by omega) hl rfl)) ((World.putObj_heap_other (by omega)).trans hd)⟩

/-- THE LAW of a loop within a round of the loop l₀. -/
theorem wp_range_in {l₀ : Nat} {r₀ : Loop} (hl₀ : w.heap[l₀]? = some (.loop r₀)) {gf : Nat} {lb : Array Value} (hg : a.eval g = .func (.func gf) #[] lb) (eg : ∀ args w, (callFunc gf args).run P w = .ok (.enter gf args) w) {vs : List Value} {Start Live : World → Prop} (hit : Iter P gf lb vs Start Live) (hps : ps.size = 1)
    (N0 : Nat → Prop) (I : (Nat → Prop) → Nat → World → Prop) (Ix : Code → (Nat → Prop) → Nat → World → Prop) (Ax : (Nat → Prop) → Nat → Act → World → Prop) (hI : ∀ N k W W', I N k W → Turn w.heap.size W W' → I N k W') (hIx : ∀ c N k W W', Ix c N k W → Turn w.heap.size W W' → Ix c N k W') (hAx : ∀ N k a₁ W W', Ax N k a₁ W → Turn w.heap.size W W' → Ax N k a₁ W')
    (hmore : ∀ N N' X Y, I N 0 X → Chg (fun _ => False) X Y → (∀ z, N z → N' z) → (∀ z, N' z → N z ∨ X.heap.size ≤ z) → (∀ z, N' z → N z ∨ z < Y.heap.size) → I N' 0 Y) (hN0 : ∀ z, N0 z → z < w.heap.size)
    (hstart : ∀ N W, I N 0 W → Start W) (hlive : ∀ N k W, I N k W → Live W) (h0 : I N0 0 w)
    (hassign : ∀ (N : Nat → Prop) (l k : Nat) (hk : k < vs.length) (W : World), I N k W → ∀ K : Act → World → Prop, (∀ a₁ W₁, Ax N k a₁ W₁ → Calm N w.heap.size W W₁ → K a₁ W₁) → assign.wpIn (Fence.wide.inRound l) 0 P (Exit.then K (fun _ _ _ => False)) { tmps := (ps.zip #[vs[k]]).foldl (fun t (p, v) => t.setIfInBounds p v) a.tmps, defers := [] } W)
    (hbody : ∀ (N : Nat → Prop) (l k : Nat) (hk : k < vs.length) (a₁ : Act) (W : World), w.heap.size ≤ l → (∃ r, W.heap[l]? = some (.loop r)) → Ax N k a₁ W → body.wpIn (Fence.wide.inRound l) 0 P (RoundQ N w.heap.size (I N (k + 1)) (fun c => Ix c N (k + 1)) W) a₁ W)
    (hdone : ∀ (N : Nat → Prop) (W : World), (∀ z, N0 z → N z) → I N vs.length W → Q .normal a W)
    (hstop : ∀ (N : Nat → Prop) (c : Code) (k : Nat) (W : World), (∀ z, N0 z → N z) → 1 ≤ k → k ≤ vs.length → Ix c N k W → c.wpIn (Fence.wide.inRound l₀) 0 P Q a W) :
    (Code.rangeFunc g ps assign body).wpIn (Fence.wide.inRound l₀) 0 P Q a w := by
  refine wpIn_rangeFunc ?_
  intro fn _
  show ∃ l mark w₁ d w₁' f args w₂, (Instr.enterLoop fn a.tmps ps assign body (some l₀)).run P w = _ ∧ _
  obtain ⟨rec, hrec⟩ : ∃ rec : LoopState → Option Code → Loop, rec = fun st pe => { state := st, pending := pe, fn, tmps := a.tmps, params := ps, assign, body, defers := r₀.defers } := ⟨_, rfl⟩
  obtain ⟨W1, hW1⟩ : ∃ W1, w.alloc (.loop (rec .ready none)) = W1 := ⟨_, rfl⟩
  have c01 : Chg (fun _ => False) w W1 := by rw [← hW1]; exact (Chg.refl _ w).alloc _
  have hsz : w.heap.size + 1 = W1.heap.size := by rw [← hW1]; simp
  have hL1 : W1.heap[w.heap.size]? = some (.loop (rec .ready none)) := by rw [← hW1]; exact World.alloc_heap_new w _
  refine ⟨w.heap.size, [], W1, { target := .fn (.func gf) lb, args := #[.func (.yield w.heap.size) #[] #[]] }, W1, gf, #[.func (.yield w.heap.size) #[] #[]] ++ lb, W1, ?_, ?_, fun _ _ => trivial, ?_, fun h => by simp [Fence.wide] at h, ?_⟩
  · rw [← hW1, hrec]; exact run_enterLoop_inner hl₀ _ _ _ _ _
  · simp only [resolve, hg]
    simp [go_sem]
  · simp [invoke, go_sem, eg]
  · refine CallsIn.inRound l₀ ((hit w.heap.size
      (fun N k W => (I N k W ∧ ¬ N w.heap.size) ∧ W.heap[w.heap.size]? = some (.loop (rec .ready none)))
      (fun N k W => ∃ c, Ix c N k W ∧ W.heap[w.heap.size]? = some (.loop (rec .done (some c))))
      W1 N0 (fun N k X Y h c => ⟨⟨hI N k X Y h.1.1 (c.up (by omega)), h.1.2⟩, blk_keep h.2 c (fun f => by have := f.1; omega)⟩)
      (fun N k X Y h c => by obtain ⟨cd, h1, h2⟩ := h; exact ⟨cd, hIx cd N k X Y h1 (c.up (by omega)), blk_keep h2 c (fun f => by have := f.1; omega)⟩)
      (fun N N' X Y h c h1 h2 h3 => ⟨⟨hmore N N' X Y h.1.1 c h1 h2 h3, fun f => (h2 _ f).elim h.1.2 (fun e => by have := lt_of_blk h.2; omega)⟩, blk_keep h.2 c (fun f => f)⟩)
      (fun N W h => hstart N W h.1.1) (fun N k W h => hlive N k W h.1.1) ?_ ⟨⟨hI N0 0 w W1 h0 (Turn.new c01), fun f => by have := hN0 _ f; omega⟩, hL1⟩).mono ?_)
    · rintro N k W hk ⟨⟨hi, hnl⟩, hl⟩
      refine YieldAt.mono (round_of (P := P) (a := a) (ps := ps) (assign := assign) (body := body) (B := w.heap.size) (l := w.heap.size) (fn := fn) (rec := rec) (va := #[vs[k]]) (fun st pe => by rw [hrec]; exact ⟨rfl, rfl, rfl, rfl, rfl, rfl, rfl⟩) (fun _ _ _ _ => by rw [hrec]) (Nat.le_refl _) hps (N := N) (I0 := I N k) (I1 := I N (k + 1)) (Ix := fun c => Ix c N (k + 1)) (Ax := Ax N k) (hI N (k + 1)) (fun c => hIx c N (k + 1)) (hAx N k) hi hl (fun K hK => hassign N _ k hk W hi K hK) (fun a₁ W₁ hr hx => hbody N _ k hk a₁ W₁ (Nat.le_refl _) hr hx)) ?_
      rintro e W' (⟨rfl, h1, h2, h3⟩ | ⟨rfl, c, h1, h2, h3⟩)
      · exact ⟨.inl ⟨rfl, ⟨h1, hnl⟩, h2⟩, h3.calm (by omega) (by omega) hnl⟩
      · exact ⟨.inr ⟨rfl, c, h1, h2⟩, h3.calm (by omega) (by omega) hnl⟩
    · rintro e W2 ⟨⟨v, rfl⟩, N, hsub, (⟨⟨hi, hnl⟩, hl⟩ | ⟨k, k1, k2, c, hi, hl⟩)⟩
      · have he := run_endLoop (P := P) hl (by rw [hrec]; simp)
        refine ⟨none, _, by rw [hrec] at he; exact he, hdone N _ hsub (hI _ _ _ _ hi (Turn.put _ (Nat.le_refl _) hl rfl))⟩
      · have he := run_endLoop (P := P) hl (by rw [hrec]; simp)
        refine ⟨some c, _, by rw [hrec] at he; exact he, hstop N c k _ hsub k1 k2 (hIx _ _ _ _ _ hi (Turn.put _ (Nat.le_refl _) hl rfl))⟩
end
end Go.Proofs.Ytkdionoelbiidaa
