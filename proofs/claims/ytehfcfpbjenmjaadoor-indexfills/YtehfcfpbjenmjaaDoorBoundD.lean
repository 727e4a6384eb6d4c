/- Several texts in one, none of a statement by itself: Rg, Rgk, Rq, Rp, Ri. -/
import Derived.Test.YtehfcfpbjenmjaaDoorBoundA
import Derived.RangeFuncNested
import Derived.RangeFuncLeaves
import Derived.RangeFuncBound
import Derived.Deep.QuietTactic
import Derived.OrdersIn
/- Ranges over a function, at the wide fence: what an iterator is asked ('Iter'), and the law of the loop over it, alone and within a round of another loop; of no statement by themselves. -/
namespace Go.Proofs.YtehfcfpbjenmjaaDoor
open Go.RowKit
set_option linter.unusedVariables false

/-- Of the blocks that were there, only such as were laid from B on and hold no cells may have turned. -/
def Turn (B : Nat) (w w' : World) : Prop := Chg (fun z => B ≤ z ∧ ∃ o : Obj, w.heap[z]? = some o ∧ o.isCells = false) w w'
theorem Turn.new {B : Nat} {w w' : World} (h : Chg (fun _ => False) w w') : Turn B w w' := h.mono (fun _ f => f.elim)
theorem chg_put (w : World) (l : Nat) (o : Obj) : Chg (fun z => z = l) w (w.putObj l o) := ⟨rfl, rfl, rfl, by simp, fun k _ hk => World.putObj_heap_other hk⟩
theorem Turn.put {B : Nat} {w : World} {l : Nat} {o : Obj} (o' : Obj) (hB : B ≤ l) (h : w.heap[l]? = some o) (ho : o.isCells = false) : Turn B w (w.putObj l o') := (chg_put w l o').mono (fun z e => .inl (by subst e; exact ⟨hB, o, h, ho⟩))
theorem Turn.up {B B' : Nat} {W W' : World} (h : Turn B' W W') (hB : B ≤ B') : Turn B W W' := h.mono (fun z f => .inl ⟨Nat.le_trans hB f.1, f.2⟩)
/-- What is kept by it: a block of cells, or one that was laid ahead of B. -/
theorem Turn.cells {B : Nat} {w w' : World} (h : Turn B w w') {z : Nat} {cs : Array Value} {t : TypeId} {fz : Nat × Nat} (hz : w.heap[z]? = some (.cells cs t fz)) : w'.heap[z]? = some (.cells cs t fz) :=
  blk_keep hz h (fun f => by obtain ⟨_, o, h1, h2⟩ := f; rw [hz] at h1; cases h1; cases h2)

/-- What lies in N, and what was laid from B on and holds no cells, is as it was. -/
def Calm (N : Nat → Prop) (B : Nat) (W W' : World) : Prop := Chg (fun z => ¬ (N z ∨ (B ≤ z ∧ ∃ o : Obj, W.heap[z]? = some o ∧ o.isCells = false))) W W'
theorem Calm.of {N : Nat → Prop} {B : Nat} {S : Nat → Prop} {W W' : World} (h : Chg S W W') (hS : ∀ z, S z → ¬ N z ∧ (z < B ∨ ∃ cs t fz, W.heap[z]? = some (.cells cs t fz))) : Calm N B W W' := h.mono (fun z s => .inl (fun f => by
  rcases f with f | ⟨f1, o, f2, f3⟩
  · exact (hS z s).1 f
  · rcases (hS z s).2 with e | ⟨cs, t, fz, e⟩
    · omega
    · rw [e] at f2; cases f2; cases f3))
theorem Calm.new {N : Nat → Prop} {B : Nat} {W W' : World} (h : Chg (fun _ => False) W W') : Calm N B W W' := Calm.of h (fun _ f => f.elim)
theorem Calm.keep {N : Nat → Prop} {B : Nat} {W W' : World} (h : Calm N B W W') {z : Nat} {o : Obj} (hz : B ≤ z) (ho : W.heap[z]? = some o) (hc : o.isCells = false) : W'.heap[z]? = some o := blk_keep ho h (fun f => f (.inr ⟨hz, o, ho, hc⟩))
theorem Calm.own {N : Nat → Prop} {B : Nat} {W W' : World} (h : Calm N B W W') {z : Nat} {o : Obj} (hz : N z) (ho : W.heap[z]? = some o) : W'.heap[z]? = some o := blk_keep ho h (fun f => f (.inl hz))
theorem Calm.trans {N : Nat → Prop} {B : Nat} {W W' W2 : World} (h : Calm N B W W') (k : Calm N B W' W2) : Calm N B W W2 :=
  ⟨k.os.trans h.os, k.tape.trans h.tape, k.output.trans h.output, Nat.le_trans h.size k.size, fun i hi hS => by
    have hn : N i ∨ (B ≤ i ∧ ∃ o : Obj, W.heap[i]? = some o ∧ o.isCells = false) := Classical.byContradiction hS
    rcases hn with hN | ⟨h1, o, h2, h3⟩
    · have e : W.heap[i]? = some W.heap[i] := Array.getElem?_eq_getElem hi
      rw [k.own hN (h.own hN e), e]
    · rw [k.keep h1 (h.keep h1 h2 h3) h3, h2]⟩
theorem Calm.up {N : Nat → Prop} {B B' : Nat} {W W' : World} (h : Calm N B W W') (hB : B ≤ B') : Calm N B' W W' := Chg.mono h (fun z f => .inl (fun g => f (g.imp id (fun g => ⟨Nat.le_trans hB g.1, g.2⟩))))
/-- Less is held; more is held, of what is new. -/
theorem Calm.less {N N' : Nat → Prop} {B : Nat} {W W' : World} (h : Calm N' B W W') (hN : ∀ z, N z → N' z) : Calm N B W W' := Chg.mono h (fun z f => .inl (fun g => f (g.imp (hN z) id)))
theorem Calm.more {N N' : Nat → Prop} {B : Nat} {W W' : World} (h : Calm N B W W') {V : World} (hV : W.heap.size ≤ V.heap.size) (hN : ∀ z, N' z → N z ∨ V.heap.size ≤ z) : Calm N' B W W' := Chg.mono h (fun z f => by
  by_cases g : W.heap.size ≤ z
  · exact .inr g
  · exact .inl (fun k => f (k.imp (fun e => (hN z e).resolve_right (by omega)) id)))
/-- An iterator: the function gf with what it has captured, ranged over from where 'Start' holds and while 'Live' does, hands vs to yield, one after the other; what it lays of its own ahead of the first is left to it. -/
def Iter (P : Program) (gf : Nat) (lb : Array Value) (vs : List Value) (Start Live : World → Prop) : Prop :=
  ∀ (l : Nat) (J Jx : (Nat → Prop) → Nat → World → Prop) (W : World) (N0 : Nat → Prop), (∀ N k X Y, J N k X → Turn W.heap.size X Y → J N k Y) → (∀ N k X Y, Jx N k X → Turn W.heap.size X Y → Jx N k Y) → (∀ N N' X Y, J N 0 X → Chg (fun _ => False) X Y → (∀ z, N z → N' z) → (∀ z, N' z → N z ∨ X.heap.size ≤ z) → (∀ z, N' z → N z ∨ z < Y.heap.size) → J N' 0 Y) → (∀ N X, J N 0 X → Start X) → (∀ N k X, J N k X → Live X) →
    (∀ N k X (hk : k < vs.length), J N k X → YieldAt Fence.wide 0 P l #[vs[k]] X fun e X' => ((e = .returned (.bool true) ∧ J N (k + 1) X') ∨ (e = .returned (.bool false) ∧ Jx N (k + 1) X')) ∧ Calm N W.heap.size X X') → J N0 0 W →
    CallsIn Fence.wide 0 P gf (#[.func (.yield l) #[] #[]] ++ lb) W fun e W' => (∃ v, e = .returned v) ∧ ∃ N, (∀ z, N0 z → N z) ∧ (J N vs.length W' ∨ ∃ k, 1 ≤ k ∧ k ≤ vs.length ∧ Jx N k W')

/-- How a round may be left. -/
def RoundQ (N : Nat → Prop) (B : Nat) (I : World → Prop) (Ix : Code → World → Prop) (W : World) : Exit → Act → World → Prop
  | .normal, _, W' => Calm N B W W' ∧ I W'
  | .ret, _, W' => Calm N B W W' ∧ Ix .ret W'
  | .exit id, _, W' => Calm N B W W' ∧ Ix (.exit id) W'
  | .goto t, _, W' => Calm N B W W' ∧ Ix (.goto t) W'
  | .panic _, _, _ => False
  | .outgrown, _, _ => False

/-- Beside l nothing that lies in N, or was laid from B on and holds no cells, has turned. -/
def Beside (N : Nat → Prop) (B l : Nat) (W W' : World) : Prop := Chg (fun z => z = l ∨ ¬ (N z ∨ (B ≤ z ∧ ∃ o : Obj, W.heap[z]? = some o ∧ o.isCells = false))) W W'
theorem Beside.at {N : Nat → Prop} {B l : Nat} {W W' : World} (h : Beside N B l W W') : ∀ z o, B ≤ z → z ≠ l → W.heap[z]? = some o → o.isCells = false → W'.heap[z]? = some o := fun z o h1 h2 h3 h4 => blk_keep h3 h (fun f => f.elim h2 (fun g => g (.inr ⟨h1, o, h3, h4⟩)))
theorem Beside.calm {N : Nat → Prop} {B l B' : Nat} {W W' : World} (h : Beside N B l W W') (h1 : B ≤ B') (h2 : l < B') (h3 : ¬ N l) : Calm N B' W W' := Chg.mono h (fun z f => .inl (fun g => f.elim (fun e => g.elim (fun n => h3 (e ▸ n)) (fun g => by have := g.1; omega)) (fun k => k (g.imp id (fun g => ⟨Nat.le_trans h1 g.1, g.2⟩)))))
section
variable {P : Program} {g : Operand} {ps : Array Tmp} {assign body : Code} {Q : Exit → Act → World → Prop} {a : Act} {w : World}

/-- One round of a loop whose record lies at l, out of the walks of its two codes. -/
theorem round_of {N : Nat → Prop} {B l fn : Nat} {rec : LoopState → Option Code → Loop} (hrec : ∀ st pe, (rec st pe).state = st ∧ (rec st pe).pending = pe ∧ (rec st pe).fn = fn ∧ (rec st pe).tmps = a.tmps ∧ (rec st pe).params = ps ∧ (rec st pe).assign = assign ∧ (rec st pe).body = body) (hset : ∀ st pe st' pe', { rec st pe with state := st', pending := pe' } = rec st' pe') (hBl : B ≤ l)
    {va : Array Value} (hps : ps.size = va.size) {I0 I1 : World → Prop} {Ix : Code → World → Prop} {Ax : Act → World → Prop} (hI1 : ∀ W W', I1 W → Turn B W W' → I1 W') (hIx : ∀ c W W', Ix c W → Turn B W W' → Ix c W') (hAx : ∀ a₁ W W', Ax a₁ W → Turn B W W' → Ax a₁ W')
    {W : World} (hI : I0 W) (hl : W.heap[l]? = some (.loop (rec .ready none)))
    (hassign : ∀ K : Act → World → Prop, (∀ a₁ W₁, Ax a₁ W₁ → Calm N B W W₁ → K a₁ W₁) → assign.wpIn (Fence.wide.inRound l) 0 P (Exit.then K (fun _ _ _ => False)) { tmps := (ps.zip va).foldl (fun t (p, v) => t.setIfInBounds p v) a.tmps, defers := [] } W)
    (hbody : ∀ a₁ W₁, (∃ r, W₁.heap[l]? = some (.loop r)) → Ax a₁ W₁ → body.wpIn (Fence.wide.inRound l) 0 P (RoundQ N B I1 Ix W₁) a₁ W₁) :
    YieldAt Fence.wide 0 P l va W fun e W' => (e = .returned (.bool true) ∧ I1 W' ∧ W'.heap[l]? = some (.loop (rec .ready none)) ∧ Beside N B l W W') ∨ (e = .returned (.bool false) ∧ ∃ c, Ix c W' ∧ W'.heap[l]? = some (.loop (rec .done (some c))) ∧ Beside N B l W W') := by
  obtain ⟨_, _, hfn0, htm, hpa, has, hbo⟩ := hrec .ready none
  have hy := run_yield (P := P) (args := va) hl (by rw [hpa, hps])
  rw [hfn0, htm, hpa, has, hbo] at hy
  refine ⟨fn, _, assign, body, hy, roundIn_of_wpIn trivial (hassign _ ?_)⟩
  intro a₁ W₁ hax c1
  have hl1 := Calm.keep c1 hBl hl rfl
  have hlt1 := lt_of_blk hl1
  have hbusy : ({ rec .ready none with state := .busy } : Loop) = rec .busy none := by
    have := hset .ready none .busy none
    rw [← this]
    have h2 := (hrec .ready none).2.1
    cases hr : rec .ready none
    rw [hr] at h2
    simp at h2
    simp [h2]
  have hbr := run_beginRound (P := P) hl1 (hrec .ready none).1
  rw [hbusy] at hbr
  refine ⟨_, hbr, ?_⟩
  have hl2 : (W₁.putObj l (.loop (rec .busy none))).heap[l]? = some (.loop (rec .busy none)) := World.putObj_heap_same hlt1
  refine wpIn_mono (hbody a₁ _ ⟨_, hl2⟩ (hAx _ _ _ hax (Turn.put _ hBl hl1 rfl))) ?_
  have fin : ∀ (jump : Option Code) (W3 : World), Calm N B (W₁.putObj l (.loop (rec .busy none))) W3 →
      (Instr.endRound l jump).run P W3 = .ok (.bool jump.isNone) (W3.putObj l (.loop (rec (if jump.isNone then .ready else .done) jump))) ∧ Turn B W3 (W3.putObj l (.loop (rec (if jump.isNone then .ready else .done) jump))) ∧
      (W3.putObj l (.loop (rec (if jump.isNone then .ready else .done) jump))).heap[l]? = some (.loop (rec (if jump.isNone then .ready else .done) jump)) ∧ Beside N B l W (W3.putObj l (.loop (rec (if jump.isNone then .ready else .done) jump))) := fun jump W3 c3 => by
    have hl3 := Calm.keep c3 hBl hl2 rfl
    have hr := run_endRound (P := P) jump hl3
    rw [hset] at hr
    refine ⟨hr, Turn.put _ hBl hl3 rfl, World.putObj_heap_same (lt_of_blk hl3), ?_⟩
    refine ⟨c3.os.trans c1.os, c3.tape.trans c1.tape, c3.output.trans c1.output, ?_, fun i hi hS => ?_⟩
    · have e1 := c1.size
      have e3 := c3.size
      simp only [World.putObj] at e3 ⊢
      simp at e3 ⊢
      omega
    · have hzl : i ≠ l := fun e => hS (.inl e)
      have hn : N i ∨ (B ≤ i ∧ ∃ o : Obj, W.heap[i]? = some o ∧ o.isCells = false) := Classical.byContradiction (fun f => hS (.inr f))
      rcases hn with hN | ⟨hz, o, ho, hc⟩
      · have ho : W.heap[i]? = some W.heap[i] := Array.getElem?_eq_getElem hi
        have e2 := (World.putObj_heap_other (o := .loop (rec .busy none)) (w := W₁) hzl).trans (Calm.own c1 hN ho)
        exact ((World.putObj_heap_other hzl).trans (Calm.own c3 hN e2)).trans ho.symm
      · have e1 := Calm.keep c1 hz ho hc
        have e2 := (World.putObj_heap_other (o := .loop (rec .busy none)) (w := W₁) hzl).trans e1
        exact ((World.putObj_heap_other hzl).trans (Calm.keep c3 hz e2 hc)).trans ho.symm
  rintro e a3 W3 hp
  cases e with
  | normal =>
    obtain ⟨c3, hi3⟩ := hp
    obtain ⟨h1, h2, h3, h4⟩ := fin none W3 c3
    exact ⟨_, _, h1, .inl ⟨rfl, hI1 _ _ hi3 h2, h3, h4⟩⟩
  | ret =>
    obtain ⟨c3, hi3⟩ := hp
    obtain ⟨h1, h2, h3, h4⟩ := fin (some .ret) W3 c3
    exact ⟨_, _, h1, .inr ⟨rfl, .ret, hIx _ _ _ hi3 h2, h3, h4⟩⟩
  | exit id =>
    obtain ⟨c3, hi3⟩ := hp
    obtain ⟨h1, h2, h3, h4⟩ := fin (some (.exit id)) W3 c3
    exact ⟨_, _, h1, .inr ⟨rfl, .exit id, hIx _ _ _ hi3 h2, h3, h4⟩⟩
  | goto t =>
    obtain ⟨c3, hi3⟩ := hp
    obtain ⟨h1, h2, h3, h4⟩ := fin (some (.goto t)) W3 c3
    exact ⟨_, _, h1, .inr ⟨rfl, .goto t, hIx _ _ _ hi3 h2, h3, h4⟩⟩
  | panic ch => exact hp.elim
  | outgrown => exact hp.elim

/-- THE LAW of an outermost loop. -/
theorem wp_range {gf : Nat} {lb : Array Value} (hg : a.eval g = .func (.func gf) #[] lb) (eg : ∀ args w, (callFunc gf args).run P w = .ok (.enter gf args) w) {vs : List Value} {Start Live : World → Prop} (hit : Iter P gf lb vs Start Live) (hps : ps.size = 1)
    (N0 : Nat → Prop) (I : (Nat → Prop) → Nat → World → Prop) (Ix : Code → (Nat → Prop) → Nat → World → Prop) (Ax : (Nat → Prop) → Nat → Act → World → Prop) (hI : ∀ N k W W', I N k W → Turn w.heap.size W W' → I N k W') (hIx : ∀ c N k W W', Ix c N k W → Turn w.heap.size W W' → Ix c N k W') (hAx : ∀ N k a₁ W W', Ax N k a₁ W → Turn w.heap.size W W' → Ax N k a₁ W')
    (hmore : ∀ N N' X Y, I N 0 X → Chg (fun _ => False) X Y → (∀ z, N z → N' z) → (∀ z, N' z → N z ∨ X.heap.size ≤ z) → (∀ z, N' z → N z ∨ z < Y.heap.size) → I N' 0 Y) (hN0 : ∀ z, N0 z → z < w.heap.size)
    (hstart : ∀ N W, I N 0 W → Start W) (hlive : ∀ N k W, I N k W → Live W) (h0 : I N0 0 w)
    (hassign : ∀ (N : Nat → Prop) (l k : Nat) (hk : k < vs.length) (W : World), I N k W → ∀ K : Act → World → Prop, (∀ a₁ W₁, Ax N k a₁ W₁ → Calm N w.heap.size W W₁ → K a₁ W₁) → assign.wpIn (Fence.wide.inRound l) 0 P (Exit.then K (fun _ _ _ => False)) { tmps := (ps.zip #[vs[k]]).foldl (fun t (p, v) => t.setIfInBounds p v) a.tmps, defers := [] } W)
    (hbody : ∀ (N : Nat → Prop) (l k : Nat) (hk : k < vs.length) (a₁ : Act) (W : World), w.heap.size ≤ l → (∃ r, W.heap[l]? = some (.loop r)) → Ax N k a₁ W → body.wpIn (Fence.wide.inRound l) 0 P (RoundQ N w.heap.size (I N (k + 1)) (fun c => Ix c N (k + 1)) W) a₁ W)
    (hdone : ∀ (N : Nat → Prop) (D : Nat) (W : World), (∀ z, N0 z → N z) → w.heap.size ≤ D → I N vs.length W → W.heap[D]? = some (.deferred (some [])) → Q .normal { a with defers := { target := .collected D, args := #[] } :: a.defers } W)
    (hstop : ∀ (N : Nat → Prop) (D : Nat) (c : Code) (k : Nat) (W : World), (∀ z, N0 z → N z) → w.heap.size ≤ D → 1 ≤ k → k ≤ vs.length → Ix c N k W → W.heap[D]? = some (.deferred (some [])) → c.wpIn Fence.wide 0 P Q { a with defers := { target := .collected D, args := #[] } :: a.defers } W) :
    (Code.rangeFunc g ps assign body).wpIn Fence.wide 0 P Q a w := by
  refine wpIn_rangeFunc ?_
  intro fn _
  show ∃ l mark w₁ d w₁' f args w₂, (Instr.enterLoop fn a.tmps ps assign body none).run P w = _ ∧ _
  obtain ⟨rec, hrec⟩ : ∃ rec : LoopState → Option Code → Loop, rec = fun st pe => { state := st, pending := pe, fn, tmps := a.tmps, params := ps, assign, body, defers := w.heap.size } := ⟨_, rfl⟩
  obtain ⟨W1, hW1⟩ : ∃ W1, (w.alloc (.deferred (some []))).alloc (.loop (rec .ready none)) = W1 := ⟨_, rfl⟩
  have c01 : Chg (fun _ => False) w W1 := by rw [← hW1]; exact ((Chg.refl _ w).alloc _).alloc _
  have hsz : w.heap.size + 2 = W1.heap.size := by rw [← hW1]; simp
  have hL1 : W1.heap[w.heap.size + 1]? = some (.loop (rec .ready none)) := by
    rw [← hW1]; have := World.alloc_heap_new (w.alloc (.deferred (some []))) (.loop (rec .ready none)); rwa [World.size_alloc] at this
  have hK1 : W1.heap[w.heap.size]? = some (.deferred (some [])) := by
    rw [← hW1]; exact (Below.heap_alloc _ _ _ (by simp)).trans (World.alloc_heap_new w _)
  refine ⟨w.heap.size + 1, [{ target := .collected w.heap.size, args := #[] }], W1, { target := .fn (.func gf) lb, args := #[.func (.yield (w.heap.size + 1)) #[] #[]] }, W1, gf, #[.func (.yield (w.heap.size + 1)) #[] #[]] ++ lb, W1, ?_, ?_, fun _ _ => trivial, ?_, fun h => by simp [Fence.wide] at h, ?_⟩
  · rw [← hW1, hrec]; exact run_enterLoop_outer _ _ _ _ _
  · simp only [resolve, hg]
    simp [go_sem]
  · simp [invoke, go_sem, eg]
  · refine (hit (w.heap.size + 1)
      (fun N k W => (I N k W ∧ ¬ N (w.heap.size + 1)) ∧ W.heap[w.heap.size + 1]? = some (.loop (rec .ready none)) ∧ W.heap[w.heap.size]? = some (.deferred (some [])))
      (fun N k W => ∃ c, Ix c N k W ∧ W.heap[w.heap.size + 1]? = some (.loop (rec .done (some c))) ∧ W.heap[w.heap.size]? = some (.deferred (some [])))
      W1 N0 (fun N k X Y h c => ⟨⟨hI N k X Y h.1.1 (c.up (by omega)), h.1.2⟩, blk_keep h.2.1 c (fun f => by have := f.1; omega), blk_keep h.2.2 c (fun f => by have := f.1; omega)⟩)
      (fun N k X Y h c => by obtain ⟨cd, h1, h2, h3⟩ := h; exact ⟨cd, hIx cd N k X Y h1 (c.up (by omega)), blk_keep h2 c (fun f => by have := f.1; omega), blk_keep h3 c (fun f => by have := f.1; omega)⟩)
      (fun N N' X Y h c h1 h2 h3 => ⟨⟨hmore N N' X Y h.1.1 c h1 h2 h3, fun f => (h2 _ f).elim h.1.2 (fun e => by have := lt_of_blk h.2.1; omega)⟩, blk_keep h.2.1 c (fun f => f), blk_keep h.2.2 c (fun f => f)⟩)
      (fun N W h => hstart N W h.1.1) (fun N k W h => hlive N k W h.1.1) ?_ ⟨⟨hI N0 0 w W1 h0 (Turn.new c01), fun f => by have := hN0 _ f; omega⟩, hL1, hK1⟩).mono ?_
    · rintro N k W hk ⟨⟨hi, hnl⟩, hl, hd⟩
      refine YieldAt.mono (round_of (P := P) (a := a) (ps := ps) (assign := assign) (body := body) (B := w.heap.size) (l := w.heap.size + 1) (fn := fn) (rec := rec) (va := #[vs[k]]) (fun st pe => by rw [hrec]; exact ⟨rfl, rfl, rfl, rfl, rfl, rfl, rfl⟩) (fun _ _ _ _ => by rw [hrec]) (by omega) hps (N := N) (I0 := I N k) (I1 := I N (k + 1)) (Ix := fun c => Ix c N (k + 1)) (Ax := Ax N k) (hI N (k + 1)) (fun c => hIx c N (k + 1)) (hAx N k) hi hl (fun K hK => hassign N _ k hk W hi K hK) (fun a₁ W₁ hr hx => hbody N _ k hk a₁ W₁ (by omega) hr hx)) ?_
      rintro e W' (⟨rfl, h1, h2, h3⟩ | ⟨rfl, c, h1, h2, h3⟩)
      · exact ⟨.inl ⟨rfl, ⟨h1, hnl⟩, h2, h3.at _ _ (Nat.le_refl _) (by omega) hd rfl⟩, h3.calm (by omega) (by omega) hnl⟩
      · exact ⟨.inr ⟨rfl, c, h1, h2, h3.at _ _ (Nat.le_refl _) (by omega) hd rfl⟩, h3.calm (by omega) (by omega) hnl⟩
    · rintro e W2 ⟨⟨v, rfl⟩, N, hsub, (⟨⟨hi, hnl⟩, hl, hd⟩ | ⟨k, k1, k2, c, hi, hl, hd⟩)⟩
      · have he := run_endLoop (P := P) hl (by rw [hrec]; simp)
        refine ⟨none, _, by rw [hrec] at he; exact he, hdone N _ _ hsub (Nat.le_refl _) (hI _ _ _ _ hi (Turn.put _ (by omega) hl rfl)) ((World.putObj_heap_other (by omega)).trans hd)⟩
      · have he := run_endLoop (P := P) hl (by rw [hrec]; simp)
        refine ⟨some c, _, by rw [hrec] at he; exact he, hstop N _ c k _ hsub (Nat.le_refl _) k1 k2 (hIx _ _ _ _ _ hi (Turn.put _ (by omega) hl rfl)) ((World.putObj_heap_other (by omega)).trans hd)⟩

/-- THE LAW of a loop within a round of the loop l₀. -/
theorem wp_range_in {l₀ : Nat} {r₀ : Loop} (hl₀ : w.heap[l₀]? = some (.loop r₀)) {gf : Nat} {lb : Array Value} (hg : a.eval g = .func (.func gf) #[] lb) (eg : ∀ args w, (callFunc gf args).run P w = .ok (.enter gf args) w) {vs : List Value} {Start Live : World → Prop} (hit : Iter P gf lb vs Start Live) (hps : ps.size = 1)
    (N0 : Nat → Prop) (I : (Nat → Prop) → Nat → World → Prop) (Ix : Code → (Nat → Prop) → Nat → World → Prop) (Ax : (Nat → Prop) → Nat → Act → World → Prop) (hI : ∀ N k W W', I N k W → Turn w.heap.size W W' → I N k W') (hIx : ∀ c N k W W', Ix c N k W → Turn w.heap.size W W' → Ix c N k W') (hAx : ∀ N k a₁ W W', Ax N k a₁ W → Turn w.heap.size W W' → Ax N k a₁ W')
    (hmore : ∀ N N' X Y, I N 0 X → Chg (fun _ => False) X Y → (∀ z, N z → N' z) → (∀ z, N' z → N z ∨ X.heap.size ≤ z) → (∀ z, N' z → N z ∨ z < Y.heap.size) → I N' 0 Y) (hN0 : ∀ z, N0 z → z < w.heap.size)
    (hstart : ∀ N W, I N 0 W → Start W) (hlive : ∀ N k W, I N k W → Live W) (h0 : I N0 0 w)
    (hassign : ∀ (N : Nat → Prop) (l k : Nat) (hk : k < vs.length) (W : World), I N k W → ∀ K : Act → World → Prop, (∀ a₁ W₁, Ax N k a₁ W₁ → Calm N w.heap.size W W₁ → K a₁ W₁) → assign.wpIn (Fence.wide.inRound l) 0 P (Exit.then K (fun _ _ _ => False)) { tmps := (ps.zip #[vs[k]]).foldl (fun t (p, v) => t.setIfInBounds p v) a.tmps, defers := [] } W)
    (hbody : ∀ (N : Nat → Prop) (l k : Nat) (hk : k < vs.length) (a₁ : Act) (W : World), w.heap.size ≤ l → (∃ r, W.heap[l]? = some (.loop r)) → Ax N k a₁ W → body.wpIn (Fence.wide.inRound l) 0 P (RoundQ N w.heap.size (I N (k + 1)) (fun c => Ix c N (k + 1)) W) a₁ W)
    (hdone : ∀ (N : Nat → Prop) (W : World), (∀ z, N0 z → N z) → I N vs.length W → Q .normal a W)
    (hstop : ∀ (N : Nat → Prop) (c : Code) (k : Nat) (W : World), (∀ z, N0 z → N z) → 1 ≤ k → k ≤ vs.length → Ix c N k W → c.wpIn (Fence.wide.inRound l₀) 0 P Q a W) :
    (Code.rangeFunc g ps assign body).wpIn (Fence.wide.inRound l₀) 0 P Q a w := by
  refine wpIn_rangeFunc ?_
  intro fn _
  show ∃ l mark w₁ d w₁' f args w₂, (Instr.enterLoop fn a.tmps ps assign body (some l₀)).run P w = _ ∧ _
  obtain ⟨rec, hrec⟩ : ∃ rec : LoopState → Option Code → Loop, rec = fun st pe => { state := st, pending := pe, fn, tmps := a.tmps, params := ps, assign, body, defers := r₀.defers } := ⟨_, rfl⟩
  obtain ⟨W1, hW1⟩ : ∃ W1, w.alloc (.loop (rec .ready none)) = W1 := ⟨_, rfl⟩
  have c01 : Chg (fun _ => False) w W1 := by rw [← hW1]; exact (Chg.refl _ w).alloc _
  have hsz : w.heap.size + 1 = W1.heap.size := by rw [← hW1]; simp
  have hL1 : W1.heap[w.heap.size]? = some (.loop (rec .ready none)) := by rw [← hW1]; exact World.alloc_heap_new w _
  refine ⟨w.heap.size, [], W1, { target := .fn (.func gf) lb, args := #[.func (.yield w.heap.size) #[] #[]] }, W1, gf, #[.func (.yield w.heap.size) #[] #[]] ++ lb, W1, ?_, ?_, fun _ _ => trivial, ?_, fun h => by simp [Fence.wide] at h, ?_⟩
  · rw [← hW1, hrec]; exact run_enterLoop_inner hl₀ _ _ _ _ _
  · simp only [resolve, hg]
    simp [go_sem]
  · simp [invoke, go_sem, eg]
  · refine CallsIn.inRound l₀ ((hit w.heap.size
      (fun N k W => (I N k W ∧ ¬ N w.heap.size) ∧ W.heap[w.heap.size]? = some (.loop (rec .ready none)))
      (fun N k W => ∃ c, Ix c N k W ∧ W.heap[w.heap.size]? = some (.loop (rec .done (some c))))
      W1 N0 (fun N k X Y h c => ⟨⟨hI N k X Y h.1.1 (c.up (by omega)), h.1.2⟩, blk_keep h.2 c (fun f => by have := f.1; omega)⟩)
      (fun N k X Y h c => by obtain ⟨cd, h1, h2⟩ := h; exact ⟨cd, hIx cd N k X Y h1 (c.up (by omega)), blk_keep h2 c (fun f => by have := f.1; omega)⟩)
      (fun N N' X Y h c h1 h2 h3 => ⟨⟨hmore N N' X Y h.1.1 c h1 h2 h3, fun f => (h2 _ f).elim h.1.2 (fun e => by have := lt_of_blk h.2; omega)⟩, blk_keep h.2 c (fun f => f)⟩)
      (fun N W h => hstart N W h.1.1) (fun N k W h => hlive N k W h.1.1) ?_ ⟨⟨hI N0 0 w W1 h0 (Turn.new c01), fun f => by have := hN0 _ f; omega⟩, hL1⟩).mono ?_)
    · rintro N k W hk ⟨⟨hi, hnl⟩, hl⟩
      refine YieldAt.mono (round_of (P := P) (a := a) (ps := ps) (assign := assign) (body := body) (B := w.heap.size) (l := w.heap.size) (fn := fn) (rec := rec) (va := #[vs[k]]) (fun st pe => by rw [hrec]; exact ⟨rfl, rfl, rfl, rfl, rfl, rfl, rfl⟩) (fun _ _ _ _ => by rw [hrec]) (Nat.le_refl _) hps (N := N) (I0 := I N k) (I1 := I N (k + 1)) (Ix := fun c => Ix c N (k + 1)) (Ax := Ax N k) (hI N (k + 1)) (fun c => hIx c N (k + 1)) (hAx N k) hi hl (fun K hK => hassign N _ k hk W hi K hK) (fun a₁ W₁ hr hx => hbody N _ k hk a₁ W₁ (Nat.le_refl _) hr hx)) ?_
      rintro e W' (⟨rfl, h1, h2, h3⟩ | ⟨rfl, c, h1, h2, h3⟩)
      · exact ⟨.inl ⟨rfl, ⟨h1, hnl⟩, h2⟩, h3.calm (by omega) (by omega) hnl⟩
      · exact ⟨.inr ⟨rfl, c, h1, h2⟩, h3.calm (by omega) (by omega) hnl⟩
    · rintro e W2 ⟨⟨v, rfl⟩, N, hsub, (⟨⟨hi, hnl⟩, hl⟩ | ⟨k, k1, k2, c, hi, hl⟩)⟩
      · have he := run_endLoop (P := P) hl (by rw [hrec]; simp)
        refine ⟨none, _, by rw [hrec] at he; exact he, hdone N _ hsub (hI _ _ _ _ hi (Turn.put _ (Nat.le_refl _) hl rfl))⟩
      · have he := run_endLoop (P := P) hl (by rw [hrec]; simp)
        refine ⟨some c, _, by rw [hrec] at he; exact he, hstop N c k _ hsub k1 k2 (hIx _ _ _ _ _ hi (Turn.put _ (Nat.le_refl _) hl rfl))⟩
end
end Go.Proofs.YtehfcfpbjenmjaaDoor

/- Ranges over a function: an iterator to which what it lays of its own is left at any time; of no statement by itself. -/
namespace Go.Proofs.YtehfcfpbjenmjaaDoor
open Go.RowKit
set_option linter.unusedVariables false

/-- An iterator: the function gf with what it has captured, ranged over from where 'Start' holds and while 'Live' does, hands vs to yield, one after the other; what it lays of its own is left to it. -/
def IterK (P : Program) (gf : Nat) (lb : Array Value) (vs : List Value) (Start Live : World → Prop) : Prop :=
  ∀ (l : Nat) (J Jx : (Nat → Prop) → Nat → World → Prop) (W : World) (N0 : Nat → Prop), (∀ N k X Y, J N k X → Turn W.heap.size X Y → J N k Y) → (∀ N k X Y, Jx N k X → Turn W.heap.size X Y → Jx N k Y) → (∀ N N' k X Y, J N k X → Chg (fun _ => False) X Y → (∀ z, N z → N' z) → (∀ z, N' z → N z ∨ X.heap.size ≤ z) → (∀ z, N' z → N z ∨ z < Y.heap.size) → J N' k Y) → (∀ N X, J N 0 X → Start X) → (∀ N k X, J N k X → Live X) →
    (∀ N k X (hk : k < vs.length), J N k X → YieldAt Fence.wide 0 P l #[vs[k]] X fun e X' => ((e = .returned (.bool true) ∧ J N (k + 1) X') ∨ (e = .returned (.bool false) ∧ Jx N (k + 1) X')) ∧ Calm N W.heap.size X X') → J N0 0 W →
    CallsIn Fence.wide 0 P gf (#[.func (.yield l) #[] #[]] ++ lb) W fun e W' => (∃ v, e = .returned v) ∧ ∃ N, (∀ z, N0 z → N z) ∧ (J N vs.length W' ∨ ∃ k, 1 ≤ k ∧ k ≤ vs.length ∧ Jx N k W')

section
variable {P : Program} {g : Operand} {ps : Array Tmp} {assign body : Code} {Q : Exit → Act → World → Prop} {a : Act} {w : World}
/-- THE LAW of an outermost loop. -/
theorem wp_rangeK {gf : Nat} {lb : Array Value} (hg : a.eval g = .func (.func gf) #[] lb) (eg : ∀ args w, (callFunc gf args).run P w = .ok (.enter gf args) w) {vs : List Value} {Start Live : World → Prop} (hit : IterK P gf lb vs Start Live) (hps : ps.size = 1)
    (N0 : Nat → Prop) (I : (Nat → Prop) → Nat → World → Prop) (Ix : Code → (Nat → Prop) → Nat → World → Prop) (Ax : (Nat → Prop) → Nat → Act → World → Prop) (hI : ∀ N k W W', I N k W → Turn w.heap.size W W' → I N k W') (hIx : ∀ c N k W W', Ix c N k W → Turn w.heap.size W W' → Ix c N k W') (hAx : ∀ N k a₁ W W', Ax N k a₁ W → Turn w.heap.size W W' → Ax N k a₁ W')
    (hmore : ∀ N N' k X Y, I N k X → Chg (fun _ => False) X Y → (∀ z, N z → N' z) → (∀ z, N' z → N z ∨ X.heap.size ≤ z) → (∀ z, N' z → N z ∨ z < Y.heap.size) → I N' k Y) (hN0 : ∀ z, N0 z → z < w.heap.size)
    (hstart : ∀ N W, I N 0 W → Start W) (hlive : ∀ N k W, I N k W → Live W) (h0 : I N0 0 w)
    (hassign : ∀ (N : Nat → Prop) (l k : Nat) (hk : k < vs.length) (W : World), I N k W → ∀ K : Act → World → Prop, (∀ a₁ W₁, Ax N k a₁ W₁ → Calm N w.heap.size W W₁ → K a₁ W₁) → assign.wpIn (Fence.wide.inRound l) 0 P (Exit.then K (fun _ _ _ => False)) { tmps := (ps.zip #[vs[k]]).foldl (fun t (p, v) => t.setIfInBounds p v) a.tmps, defers := [] } W)
    (hbody : ∀ (N : Nat → Prop) (l k : Nat) (hk : k < vs.length) (a₁ : Act) (W : World), w.heap.size ≤ l → (∃ r, W.heap[l]? = some (.loop r)) → Ax N k a₁ W → body.wpIn (Fence.wide.inRound l) 0 P (RoundQ N w.heap.size (I N (k + 1)) (fun c => Ix c N (k + 1)) W) a₁ W)
    (hdone : ∀ (N : Nat → Prop) (D : Nat) (W : World), (∀ z, N0 z → N z) → w.heap.size ≤ D → I N vs.length W → W.heap[D]? = some (.deferred (some [])) → Q .normal { a with defers := { target := .collected D, args := #[] } :: a.defers } W)
    (hstop : ∀ (N : Nat → Prop) (D : Nat) (c : Code) (k : Nat) (W : World), (∀ z, N0 z → N z) → w.heap.size ≤ D → 1 ≤ k → k ≤ vs.length → Ix c N k W → W.heap[D]? = some (.deferred (some [])) → c.wpIn Fence.wide 0 P Q { a with defers := { target := .collected D, args := #[] } :: a.defers } W) :
    (Code.rangeFunc g ps assign body).wpIn Fence.wide 0 P Q a w := by
  refine wpIn_rangeFunc ?_
  intro fn _
  show ∃ l mark w₁ d w₁' f args w₂, (Instr.enterLoop fn a.tmps ps assign body none).run P w = _ ∧ _
  obtain ⟨rec, hrec⟩ : ∃ rec : LoopState → Option Code → Loop, rec = fun st pe => { state := st, pending := pe, fn, tmps := a.tmps, params := ps, assign, body, defers := w.heap.size } := ⟨_, rfl⟩
  obtain ⟨W1, hW1⟩ : ∃ W1, (w.alloc (.deferred (some []))).alloc (.loop (rec .ready none)) = W1 := ⟨_, rfl⟩
  have c01 : Chg (fun _ => False) w W1 := by rw [← hW1]; exact ((Chg.refl _ w).alloc _).alloc _
  have hsz : w.heap.size + 2 = W1.heap.size := by rw [← hW1]; simp
  have hL1 : W1.heap[w.heap.size + 1]? = some (.loop (rec .ready none)) := by
    rw [← hW1]; have := World.alloc_heap_new (w.alloc (.deferred (some []))) (.loop (rec .ready none)); rwa [World.size_alloc] at this
  have hK1 : W1.heap[w.heap.size]? = some (.deferred (some [])) := by
    rw [← hW1]; exact (Below.heap_alloc _ _ _ (by simp)).trans (World.alloc_heap_new w _)
  refine ⟨w.heap.size + 1, [{ target := .collected w.heap.size, args := #[] }], W1, { target := .fn (.func gf) lb, args := #[.func (.yield (w.heap.size + 1)) #[] #[]] }, W1, gf, #[.func (.yield (w.heap.size + 1)) #[] #[]] ++ lb, W1, ?_, ?_, fun _ _ => trivial, ?_, fun h => by simp [Fence.wide] at h, ?_⟩
  · rw [← hW1, hrec]; exact run_enterLoop_outer _ _ _ _ _
  · simp only [resolve, hg]
    simp [go_sem]
  · simp [invoke, go_sem, eg]
  · refine (hit (w.heap.size + 1)
      (fun N k W => (I N k W ∧ ¬ N (w.heap.size + 1)) ∧ W.heap[w.heap.size + 1]? = some (.loop (rec .ready none)) ∧ W.heap[w.heap.size]? = some (.deferred (some [])))
      (fun N k W => ∃ c, Ix c N k W ∧ W.heap[w.heap.size + 1]? = some (.loop (rec .done (some c))) ∧ W.heap[w.heap.size]? = some (.deferred (some [])))
      W1 N0 (fun N k X Y h c => ⟨⟨hI N k X Y h.1.1 (c.up (by omega)), h.1.2⟩, blk_keep h.2.1 c (fun f => by have := f.1; omega), blk_keep h.2.2 c (fun f => by have := f.1; omega)⟩)
      (fun N k X Y h c => by obtain ⟨cd, h1, h2, h3⟩ := h; exact ⟨cd, hIx cd N k X Y h1 (c.up (by omega)), blk_keep h2 c (fun f => by have := f.1; omega), blk_keep h3 c (fun f => by have := f.1; omega)⟩)
      (fun N N' k X Y h c h1 h2 h3 => ⟨⟨hmore N N' k X Y h.1.1 c h1 h2 h3, fun f => (h2 _ f).elim h.1.2 (fun e => by have := lt_of_blk h.2.1; omega)⟩, blk_keep h.2.1 c (fun f => f), blk_keep h.2.2 c (fun f => f)⟩)
      (fun N W h => hstart N W h.1.1) (fun N k W h => hlive N k W h.1.1) ?_ ⟨⟨hI N0 0 w W1 h0 (Turn.new c01), fun f => by have := hN0 _ f; omega⟩, hL1, hK1⟩).mono ?_
    · rintro N k W hk ⟨⟨hi, hnl⟩, hl, hd⟩
      refine YieldAt.mono (round_of (P := P) (a := a) (ps := ps) (assign := assign) (body := body) (B := w.heap.size) (l := w.heap.size + 1) (fn := fn) (rec := rec) (va := #[vs[k]]) (fun st pe => by rw [hrec]; exact ⟨rfl, rfl, rfl, rfl, rfl, rfl, rfl⟩) (fun _ _ _ _ => by rw [hrec]) (by omega) hps (N := N) (I0 := I N k) (I1 := I N (k + 1)) (Ix := fun c => Ix c N (k + 1)) (Ax := Ax N k) (hI N (k + 1)) (fun c => hIx c N (k + 1)) (hAx N k) hi hl (fun K hK => hassign N _ k hk W hi K hK) (fun a₁ W₁ hr hx => hbody N _ k hk a₁ W₁ (by omega) hr hx)) ?_
      rintro e W' (⟨rfl, h1, h2, h3⟩ | ⟨rfl, c, h1, h2, h3⟩)
      · exact ⟨.inl ⟨rfl, ⟨h1, hnl⟩, h2, h3.at _ _ (Nat.le_refl _) (by omega) hd rfl⟩, h3.calm (by omega) (by omega) hnl⟩
      · exact ⟨.inr ⟨rfl, c, h1, h2, h3.at _ _ (Nat.le_refl _) (by omega) hd rfl⟩, h3.calm (by omega) (by omega) hnl⟩
    · rintro e W2 ⟨⟨v, rfl⟩, N, hsub, (⟨⟨hi, hnl⟩, hl, hd⟩ | ⟨k, k1, k2, c, hi, hl, hd⟩)⟩
      · have he := run_endLoop (P := P) hl (by rw [hrec]; simp)
        refine ⟨none, _, by rw [hrec] at he; exact he, hdone N _ _ hsub (Nat.le_refl _) (hI _ _ _ _ hi (Turn.put _ (by omega) hl rfl)) ((World.putObj_heap_other (by omega)).trans hd)⟩
      · have he := run_endLoop (P := P) hl (by rw [hrec]; simp)
        refine ⟨some c, _, by rw [hrec] at he; exact he, hstop N _ c k _ hsub (Nat.le_refl _) k1 k2 (hIx _ _ _ _ _ hi (Turn.put _ (by omega) hl rfl)) ((World.putObj_heap_other (by omega)).trans hd)⟩
end
end Go.Proofs.YtehfcfpbjenmjaaDoor

/- A region that draws its order within a round: one walk of the lexical order serves, where its operations only read; of no statement by itself. -/
namespace Go.Proofs.YtehfcfpbjenmjaaDoor
open Go.RowKit
set_option linter.unusedVariables false
section
variable {P : Program} {Q : Exit → Act → World → Prop}
/-- No operation defers a call. -/
def noDefer (ops : List Oper) : Bool := ops.all fun o => match o.op with | .defer _ => false | _ => true
theorem rows_in {l : Nat} {row : String} {args : Array Value} {w : World} {R : Value → World → Prop} (h : Rows P row args w R) : RowsIn (Fence.wide.inRound l) 0 P row args w R := fun c cs _ => by
  obtain ⟨v, w', r, s⟩ := h c cs
  exact ⟨v, w', r, stepsIn_wide.2 s⟩
theorem oper_in {l : Nat} {o : Oper} {a : Act} {w : World} {K : Act → World → Prop} (hd : ∀ c, o.op ≠ .defer c) (h : o.wp P a w K Q) : o.wpIn (Fence.wide.inRound l) 0 P a w K Q := by
  unfold Oper.wpIn
  refine ⟨fun _ _ => trivial, ?_⟩
  rw [show (Fence.wide.inRound l).round = some l from rfl, Oper.semAt_some l _ _ hd]
  unfold Oper.wp at h
  generalize (execOp a.eval o).run P w = r at *
  cases r with
  | ok x w' =>
    cases x with
    | enter f args => exact ⟨fun e => by simp [Fence.wide, Fence.inRound] at e, CallsIn.inRound l (callsIn_wide.2 h)⟩
    | row row args => exact ⟨fun e => by simp [Fence.wide, Fence.inRound] at e, rows_in h⟩
    | round l' f tmps assign body => exact h.elim
    | _ => first | exact h | exact h.elim
  | halt x w' => cases x <;> first | exact h | exact h.elim
theorem any_in {l : Nat} {md : Region.Mode} {ops : Array Oper} (hd : ∀ (i : Nat) (o : Oper), ops[i]? = some o → ∀ c, o.op ≠ Op.defer c) (hQ : ¬ LetsOut Q) : ∀ (fuel : Nat) (listed : Array Bool) (a : Act) (w : World), wpAny P md ops Q fuel listed a w → wpAnyIn (Fence.wide.inRound l) 0 P md ops Q fuel listed a w
  | 0, listed, a, w, h => h
  | fuel + 1, listed, a, w, h => by
    refine ⟨h.1, fun i hi => ?_⟩
    have h2 := h.2 i hi
    unfold wpOp at h2
    unfold wpOpIn
    cases ho : ops[i]? with
    | none =>
      rw [ho] at h2
      exact any_in hd hQ fuel _ _ _ h2
    | some o =>
      rw [ho] at h2
      simp only at h2 ⊢
      by_cases hw : Region.wanted o (yielded ops a.tmps) = true
      · rw [if_pos hw] at h2 ⊢
        rcases h2 with h2 | h2
        · exact oper_in (hd i o ho) (Oper.wp_mono (fun a w => any_in hd hQ fuel _ a w) h2)
        · exact absurd h2.2 hQ
      · rw [if_neg hw] at h2 ⊢
        exact ⟨fun _ _ => trivial, any_in hd hQ fuel _ _ _ h2⟩
theorem noDefer_spec {ops : List Oper} (h : noDefer ops = true) : ∀ (i : Nat) (o : Oper), ops.toArray[i]? = some o → ∀ c, o.op ≠ Op.defer c := fun i o ho c e => by
  have hm : o ∈ ops := by
    rw [List.getElem?_toArray] at ho
    exact List.mem_of_getElem? ho
  have := List.all_eq_true.1 h o hm
  rw [e] at this
  cases this
/-- THE LAW. -/
theorem wpIn_region_quiet {l id : Nat} {a : Act} {w : World} {ops : List Oper} (hm : P.follows .mixedOrders = true) (hB : Region.lexB .any ops.toArray = true) (hd : noDefer ops = true) (hQ : ¬ LetsOut Q)
    (h : wpQuiet P ops.toArray (fun w' => ∃ n, w' = w.drewN n) (fun a' => ∀ w', (∃ n, w' = w.drewN n) → Q .normal a' w') ops a) : (Code.region id ops.toArray true).wpIn (Fence.wide.inRound l) 0 P Q a w := by
  simp only [Region.lexB, Bool.and_eq_true] at hB
  refine wpIn_region_any hm (any_in (noDefer_spec hd) hQ _ _ _ _ (wpAny_of_quiet (C := fun w' => ∃ n, w' = w.drewN n) (Q := fun a' => ∀ w', (∃ n, w' = w.drewN n) → Q .normal a' w') (fun _ w' hw' h => h w' hw') _ _ _ _ ⟨1, rfl⟩ ?_))
  have := wpAnyQ_lex (C := fun w' => ∃ n, w' = w.drewN n) (md := .any) hB.1 ops 0 (Array.replicate ops.toArray.size false) a (by simp) (by simpa using hB.2) (by simpa using h)
  simpa using this
end
end Go.Proofs.YtehfcfpbjenmjaaDoor

/- A region that draws its order within a round, with calls: a state goes on with each of them; of no statement by itself. -/
namespace Go.Proofs.YtehfcfpbjenmjaaDoor
open Go.RowKit
set_option linter.unusedVariables false
section
variable {P : Program} {ops : Array Oper} {Q : Exit → Act → World → Prop}
theorem wpIn_region_phase {l id : Nat} {a : Act} {w0 : World} (mk : (Nat → Value) → Array Value) (G : Nat → Value → Prop) (J : Nat → (Nat → Value) → World → Prop) (ms : List Nat) (u0 : Nat → Value) (ha : a = ⟨mk u0, []⟩) (hm : P.follows .mixedOrders = true)
    (n : Nat) (last : Oper) (hn : ops.size = n + 1) (hl : ops[n]? = some last) (ht : tidyL ops n = true) (hch : chainOk ops ms = true) (hmn : ms.all (fun m => decide (m < n)) = true) (hnd : ms.Nodup) (hdf : noDefer ops.toList = true) (hQ : ¬ LetsOut Q) (hp : Puts mk (ops.toList.take n))
    (hJ : ∀ q u u' w, (∀ m ∈ ms, u (slotOf ops m) = u' (slotOf ops m)) → J q u w → J q u' w) (hJ0 : J 0 u0 w0.drew)
    (hs : StepsP P ops Q mk G J ms 0 (ops.toList.take n))
    (hend : ∀ u w, J ms.length u w → Alls (fun t v _ => G t v) u w (ops.toList.take n) → ∀ K : Act → World → Prop, Shut (∀ a w', Q .normal a w' → K a w') →
      if Region.wanted last (yielded ops (mk u)) = true then Oper.wp P last ⟨mk u, []⟩ w K Q else K ((⟨mk u, []⟩ : Act).put last.dst undef) w) : (Code.region id ops true).wpIn (Fence.wide.inRound l) 0 P Q a w0 := by
  subst ha
  have hlen : (ops.toList.take n).length = n := by simp; omega
  have hops : ops.toList = ops.toList.take n ++ [last] := by
    have h1 : ops.toList[n]? = some last := by simpa using hl
    obtain ⟨h2, h3⟩ := List.getElem?_eq_some_iff.1 h1
    have h4 := List.take_succ_eq_append_getElem h2
    rw [h3] at h4
    rw [← h4, List.take_of_length_le (by simp; omega)]
  refine wpIn_region_any hm (any_in (fun i o ho => noDefer_spec hdf i o (by simpa using ho)) hQ _ _ _ _ (phase_go (ops.toList.take n) last ms hops (by rw [hlen]; exact ht) hch (by rw [hlen]; exact hmn) hnd hp hJ hs hend _ _ u0 _ (by simp) ?_ (rep_getD _ _) ?_ ⟨0, Nat.zero_le _, fun k _ hk => by omega, fun k _ _ => rep_getD _ _, hJ0⟩ ?_))
  · have := List.countP_le_length (p := fun b => !b) (l := (Array.replicate ops.size false).toList)
    simpa using this
  · intro i o e h
    rw [rep_getD] at h
    cases h
  · intro i hi h
    rw [rep_getD] at h
    cases h
end
end Go.Proofs.YtehfcfpbjenmjaaDoor

/- A region that draws its order within a round, with calls of yield among its operations: a state goes on with each of them; of no statement by itself. -/
namespace Go.Proofs.YtehfcfpbjenmjaaDoor
open Go.RowKit
set_option linter.unusedVariables false

section
variable {F : Fence} {P : Program} {ops : Array Oper} {Q : Exit → Act → World → Prop} {G : Nat → Value → Prop} {J : Nat → (Nat → Value) → World → Prop} {mk : (Nat → Value) → Array Value} {df : List Deferred} {lim : Nat → Nat}

/-- An operation that only reads: in every state it gives its slot a value with its own fact. -/
def StepRQI (F : Fence) (P : Program) (ops : Array Oper) (Q : Exit → Act → World → Prop) (mk : (Nat → Value) → Array Value) (df : List Deferred) (G : Nat → Value → Prop) (J : Nat → (Nat → Value) → World → Prop) (lm : Nat) (o : Oper) : Prop :=
  ∀ (q : Nat) (_ : q ≤ lm) (u : Nat → Value) (w : World), J q u w → Deps ops (fun t v _ => G t v) u w o.after.toList →
      ∀ K : Act → World → Prop, Shut (∀ v, G (o.dst.getD 0) v → K ((⟨mk u, df⟩ : Act).put o.dst v) w) →
      if Region.wanted o (yielded ops (mk u)) = true then Oper.wpIn F 0 P o ⟨mk u, df⟩ w K Q else (∀ f, o.about P w (⟨mk u, df⟩ : Act).eval = some f → F.fn f) ∧ K ((⟨mk u, df⟩ : Act).put o.dst undef) w
/-- An operation that turns memory: from the state q to the next. -/
def StepWQI (F : Fence) (P : Program) (ops : Array Oper) (Q : Exit → Act → World → Prop) (mk : (Nat → Value) → Array Value) (df : List Deferred) (G : Nat → Value → Prop) (J : Nat → (Nat → Value) → World → Prop) (q : Nat) (o : Oper) : Prop :=
  ∀ (u : Nat → Value) (w : World), J q u w → Deps ops (fun t v _ => G t v) u w o.after.toList →
      ∀ K : Act → World → Prop, Shut (∀ v w', J (q + 1) (upd u (o.dst.getD 0) v) w' → G (o.dst.getD 0) v → K ((⟨mk u, df⟩ : Act).put o.dst v) w') →
      if Region.wanted o (yielded ops (mk u)) = true then Oper.wpIn F 0 P o ⟨mk u, df⟩ w K Q else (∀ f, o.about P w (⟨mk u, df⟩ : Act).eval = some f → F.fn f) ∧ K ((⟨mk u, df⟩ : Act).put o.dst undef) w
/-- The operations from number i on, those of ms turning memory. -/
def StepsQI (F : Fence) (P : Program) (ops : Array Oper) (Q : Exit → Act → World → Prop) (mk : (Nat → Value) → Array Value) (df : List Deferred) (G : Nat → Value → Prop) (J : Nat → (Nat → Value) → World → Prop) (ms : List Nat) (lim : Nat → Nat) : Nat → List Oper → Prop
  | _, [] => True
  | i, o :: r => (match ms.idxOf? i with | none => StepRQI F P ops Q mk df G J (lim i) o | some q => StepWQI F P ops Q mk df G J q o) ∧ StepsQI F P ops Q mk df G J ms lim (i + 1) r

theorem stepsQI_at {ms : List Nat} : ∀ {l : List Oper} {b : Nat}, StepsQI F P ops Q mk df G J ms lim b l → ∀ k o, l[k]? = some o → (match ms.idxOf? (b + k) with | none => StepRQI F P ops Q mk df G J (lim (b + k)) o | some q => StepWQI F P ops Q mk df G J q o)
  | [], _, _, k, o, h => by simp at h
  | o' :: l, b, hs, 0, o, h => by
    simp only [List.getElem?_cons_zero, Option.some.injEq] at h
    subst h
    exact hs.1
  | o' :: l, b, hs, k + 1, o, h => by
    rw [List.getElem?_cons_succ] at h
    have := stepsQI_at hs.2 k o h
    rw [show b + (k + 1) = b + 1 + k by omega]
    exact this

theorem phaseQI_go (front : List Oper) (last : Oper) (ms : List Nat) (hops : ops.toList = front ++ [last]) (ht : tidyL ops front.length = true) (hch : chainOk ops ms = true) (hmn : ms.all (fun m => decide (m < front.length)) = true) (hnd : ms.Nodup) (hp : PutsQ mk df front)
    (hJ : ∀ q u u' w, (∀ m ∈ ms, u (slotOf ops m) = u' (slotOf ops m)) → J q u w → J q u' w)
    (hlim : limOk ops ms lim front.length = true) (hs : StepsQI F P ops Q mk df G J ms lim 0 front)
    (hend : ∀ u w, J ms.length u w → Alls (fun t v _ => G t v) u w front → ∀ K : Act → World → Prop, Shut (∀ a w', Q .normal a w' → K a w') →
      if Region.wanted last (yielded ops (mk u)) = true then Oper.wpIn F 0 P last ⟨mk u, df⟩ w K Q else (∀ f, last.about P w (⟨mk u, df⟩ : Act).eval = some f → F.fn f) ∧ K ((⟨mk u, df⟩ : Act).put last.dst undef) w) :
    ∀ (fuel : Nat) (listed : Array Bool) (u : Nat → Value) (w : World), listed.size = ops.size → listed.toList.countP (fun b => !b) ≤ fuel →
      listed.getD front.length false = false →
      (∀ i o e, listed.getD i false = true → ops[i]? = some o → e ∈ o.after → Region.binds .any e = true → listed.getD e.on false = true) →
      (∃ q, q ≤ ms.length ∧ (∀ k (h : k < ms.length), k < q → listed.getD ms[k] false = true) ∧ (∀ k (h : k < ms.length), q ≤ k → listed.getD ms[k] false = false) ∧ J q u w) →
      (∀ i, i < front.length → listed.getD i false = true → G (slotOf ops i) (u (slotOf ops i))) → wpAnyIn F 0 P .any ops Q fuel listed ⟨mk u, df⟩ w := by
  have hsz0 : ops.size = front.length + 1 := by
    have := congrArg List.length hops
    simpa using this
  have hmlt : ∀ k (h : k < ms.length), ms[k] < front.length := fun k h => by
    have := List.all_eq_true.1 hmn ms[k] (List.getElem_mem h)
    simpa using this
  have hfr : ∀ i, i < front.length → ∃ o, ops[i]? = some o ∧ o ∈ front := by
    intro i hi
    refine ⟨front[i], ?_, List.getElem_mem _⟩
    rw [← Array.getElem?_toList, hops, List.getElem?_append_left hi, List.getElem?_eq_getElem hi]
  have hla : ops[front.length]? = some last := by
    rw [← Array.getElem?_toList, hops]
    simp
  have hno : ∀ (listed : Array Bool), listed.size = ops.size → listed.getD front.length false = false → Region.ready .any ops listed = [] → False := by
    intro listed hsz hl hr
    have hall : ∀ i, i < ops.size → listed.getD i false = true := by
      intro i
      induction i using Nat.strongRecOn with
      | ind i ih =>
        intro hi
        cases hl : listed.getD i false with
        | true => rfl
        | false =>
          exfalso
          have : i ∈ Region.ready .any ops listed := by
            refine mem_ready.2 ⟨?_, ops[i], Array.getElem?_eq_getElem hi, fun e he _ => ?_⟩
            · have hi' : i < listed.size := by omega
              simpa [hi'] using hl
            · have := tidyL_after ht (by omega) (Array.getElem?_eq_getElem hi) he
              exact ih _ this (by omega)
          rw [hr] at this
          cases this
    rw [hall _ (by omega)] at hl
    cases hl
  intro fuel
  induction fuel with
  | zero =>
    intro listed u w hsz hn hL hC hq hF
    exfalso
    have hjs : front.length < listed.size := by omega
    have h1 : listed[front.length] = false := by simpa [hjs] using hL
    have h2 : 0 < listed.toList.countP (fun b => !b) := List.countP_pos_iff.2 ⟨false, by rw [← h1]; simp, rfl⟩
    omega
  | succ fuel ih =>
    intro listed u w hsz hn hL hC hq hF
    refine ⟨fun hr => (hno listed hsz hL hr).elim, fun i hi => ?_⟩
    obtain ⟨h0, o, ho, hall⟩ := mem_ready.1 hi
    have hio : i < ops.size := (Array.getElem?_eq_some_iff.1 ho).1
    have his : i < listed.size := by omega
    have hl0 : listed[i] = false := by simpa [his] using h0
    have hli : listed.getD i false = false := by simpa [his] using hl0
    have hcnt : (listed.setIfInBounds i true).toList.countP (fun b => !b) ≤ fuel := by
      have : (listed.setIfInBounds i true).toList = listed.toList.set i true := by simp
      rw [this, List.countP_set (by simpa using his)]
      have h2 : 0 < listed.toList.countP (fun b => !b) := List.countP_pos_iff.2 ⟨false, by rw [← hl0]; simp, rfl⟩
      have h3 : (!(listed.toList[i]'(by simpa using his))) = true := by simp [hl0]
      rw [if_pos h3]
      simp only [Bool.not_true, Bool.false_eq_true, if_false]
      omega
    have hC2 : i < front.length → ∀ j oj e, (listed.setIfInBounds i true).getD j false = true → ops[j]? = some oj → e ∈ oj.after → Region.binds .any e = true → (listed.setIfInBounds i true).getD e.on false = true := by
      intro hin j oj e hlj hoj he hb
      by_cases ej : j = i
      · subst ej
        obtain rfl : oj = o := Option.some.inj (hoj.symm.trans ho)
        have := tidyL_after ht (by omega) ho he
        rw [getD_set_ne false (by omega)]
        exact hall e he hb
      · rw [getD_set_ne false (Ne.symm ej)] at hlj
        have := hC j oj e hlj hoj he hb
        by_cases ee : e.on = i
        · rw [ee]
          simp [his]
        · rw [getD_set_ne false (Ne.symm ee)]
          exact this
    by_cases hin : i < front.length
    · obtain ⟨o', ho', hmem⟩ := hfr i hin
      obtain rfl : o' = o := Option.some.inj (ho'.symm.trans ho)
      have e1' := putsQ_at hp o' hmem u
      obtain ⟨t, hd⟩ : ∃ t, o'.dst.getD 0 = t := ⟨_, rfl⟩
      have e1 : ∀ v, (⟨mk u, df⟩ : Act).put o'.dst v = ⟨mk (upd u t v), df⟩ := fun v => by rw [← hd]; exact e1' v
      have hslot : slotOf ops i = t := by rw [← hd]; simp [slotOf, ho]
      have hne : ∀ j, j < front.length → j ≠ i → slotOf ops j ≠ t := fun j hj e h => e (tidyL_slot ht hj hin (by rw [h, hslot]))
      obtain ⟨q, hq0, hq1, hq2, hj⟩ := hq
      have hfi : front[i]? = some o' := by
        rw [← Array.getElem?_toList, hops, List.getElem?_append_left hin] at ho
        exact ho
      have hstep := stepsQI_at hs i o' hfi
      rw [Nat.zero_add] at hstep
      cases hx : ms.idxOf? i with
      | none =>
        rw [hx] at hstep
        have hnm : i ∉ ms := by simpa using hx
        have hqi : q ≤ lim i := by
          by_cases hc : q ≤ lim i
          · exact hc
          · exfalso
            have hlt : lim i < ms.length := by omega
            have h1 := List.all_eq_true.1 hlim i (List.mem_range.2 hin)
            rw [List.getElem?_eq_getElem hlt] at h1
            have h2 := reach_listed hC _ _ _ (by simpa using h1) (hq1 (lim i) hlt (by omega))
            rw [hli] at h2
            cases h2
        refine wpOpIn_step ho (fun K hK => hstep q hqi u w hj (deps_of _ fun e he hb => ?_) K ?_)
        · have he' : e ∈ o'.after := by simpa using he
          have := tidyL_after ht (by omega) ho he'
          exact hF e.on (by omega) (hall e he' hb)
        · intro v hGv
          refine hK _ _ ?_
          rw [hd] at hGv
          rw [e1]
          refine ih _ _ w (by simpa using hsz) hcnt (by rw [getD_set_ne false (by omega)]; exact hL) (hC2 hin) ⟨q, hq0, fun k h hk => ?_, fun k h hk => ?_, hJ q u _ w (fun m hm => ?_) hj⟩ (fun j hj2 hlj => ?_)
          · have hne2 : i ≠ ms[k] := fun e => hnm (e ▸ List.getElem_mem h)
            rw [getD_set_ne false hne2]
            exact hq1 k h hk
          · have hne2 : i ≠ ms[k] := fun e => hnm (e ▸ List.getElem_mem h)
            rw [getD_set_ne false hne2]
            exact hq2 k h hk
          · obtain ⟨k, hk, rfl⟩ := List.mem_iff_getElem.1 hm
            have := hne ms[k] (hmlt k hk) (fun e => hnm (e ▸ List.getElem_mem hk))
            simp [upd, this]
          · by_cases e : j = i
            · subst e
              rw [hslot]
              simpa [upd] using hGv
            · have hlj' : listed.getD j false = true := by
                rw [getD_set_ne false (Ne.symm e)] at hlj
                exact hlj
              simpa [upd, hne j hj2 e] using hF j hj2 hlj'
      | some k =>
        rw [hx] at hstep
        obtain ⟨hk, hki⟩ : ∃ h : k < ms.length, ms[k] = i := by
          have := List.idxOf?_eq_some_iff.1 hx
          obtain ⟨h1, h2, _⟩ := this
          exact ⟨h1, by simpa using h2⟩
        have hkq : k = q := by
          have h1 : q ≤ k := by
            by_cases h : k < q
            · have := hq1 k hk h
              rw [hki, hli] at this
              cases this
            · omega
          by_cases h2 : q < k
          · exfalso
            obtain ⟨d, rfl⟩ : ∃ d, k = d + 1 := ⟨k - 1, by omega⟩
            obtain ⟨o2, e2, ho2, he2, hon, hb2⟩ := chain_wait hch d hk
            rw [hki] at ho2
            obtain rfl : o2 = o' := Option.some.inj (ho2.symm.trans ho)
            have h3 := hall e2 he2 hb2
            rw [hon] at h3
            have h4 := hq2 d (by omega) (by omega)
            rw [h3] at h4
            cases h4
          · omega
        subst hkq
        refine wpOpIn_step ho (fun K hK => hstep u w hj (deps_of _ fun e he hb => ?_) K ?_)
        · have he' : e ∈ o'.after := by simpa using he
          have := tidyL_after ht (by omega) ho he'
          exact hF e.on (by omega) (hall e he' hb)
        · intro v w' hj2 hGv
          refine hK _ _ ?_
          rw [hd] at hGv hj2
          rw [e1]
          have hdis : ∀ k' (h : k' < ms.length), k' ≠ k → i ≠ ms[k'] := fun k' h hne3 e => by
            rw [← hki] at e
            exact hne3 ((List.getElem_inj hnd).1 e.symm)
          refine ih _ _ w' (by simpa using hsz) hcnt (by rw [getD_set_ne false (by omega)]; exact hL) (hC2 hin) ⟨k + 1, hk, fun k' h hk' => ?_, fun k' h hk' => ?_, hj2⟩ (fun j hj3 hlj => ?_)
          · by_cases e : k' = k
            · subst e
              rw [hki]
              simp [his]
            · rw [getD_set_ne false (hdis k' h e)]
              exact hq1 k' h (by omega)
          · rw [getD_set_ne false (hdis k' h (by omega))]
            exact hq2 k' h (by omega)
          · by_cases e : j = i
            · subst e
              rw [hslot]
              simpa [upd] using hGv
            · have hlj' : listed.getD j false = true := by
                rw [getD_set_ne false (Ne.symm e)] at hlj
                exact hlj
              simpa [upd, hne j hj3 e] using hF j hj3 hlj'
    · obtain rfl : i = front.length := by omega
      obtain rfl : last = o := Option.some.inj (hla.symm.trans ho)
      have hall2 : ∀ d j, j + d + 1 = front.length → listed.getD j false = true := by
        intro d
        induction d using Nat.strongRecOn with
        | ind d ihd =>
          intro j hj
          obtain ⟨k, o, e, hjk, hkn, hok, he, heo, hb⟩ := tidyL_wait ht (show j < front.length by omega)
          by_cases hk : k = front.length
          · subst hk
            obtain rfl : o = last := Option.some.inj (hok.symm.trans ho)
            have := hall e he hb
            rwa [heo] at this
          · have h1 := ihd (front.length - k - 1) (by omega) k (by omega)
            have := hC k o e h1 hok he hb
            rwa [heo] at this
      obtain ⟨q, hq0, hq1, hq2, hj⟩ := hq
      obtain rfl : q = ms.length := by
        by_cases h : q < ms.length
        · have h1 := hq2 q h (Nat.le_refl _)
          have h2 := hmlt q h
          rw [hall2 (front.length - ms[q] - 1) ms[q] (by omega)] at h1
          cases h1
        · omega
      have hA : Alls (fun t v _ => G t v) u w front := by
        refine alls_of _ fun o hmo => ?_
        obtain ⟨j, hj2, rfl⟩ := List.mem_iff_getElem.1 hmo
        have hoj : ops[j]? = some front[j] := by rw [← Array.getElem?_toList, hops, List.getElem?_append_left hj2, List.getElem?_eq_getElem hj2]
        have := hF j hj2 (hall2 (front.length - j - 1) j (by omega))
        have es : slotOf ops j = (front[j]).dst.getD 0 := by simp [slotOf, hoj]
        rw [es] at this
        exact this
      refine wpOpIn_step ho (fun K hK => hend u w hj hA K (fun a w' hq => hK _ _ ?_))
      have hr : Region.ready .any ops (listed.setIfInBounds front.length true) = [] := by
        cases h : Region.ready .any ops (listed.setIfInBounds front.length true) with
        | nil => rfl
        | cons j l =>
          exfalso
          have hj : j ∈ Region.ready .any ops (listed.setIfInBounds front.length true) := by rw [h]; exact List.mem_cons_self
          obtain ⟨h0, o, ho, _⟩ := mem_ready.1 hj
          have hjs : j < ops.size := (Array.getElem?_eq_some_iff.1 ho).1
          by_cases e : j = front.length
          · subst e
            simp [his] at h0
          · have := hall2 (front.length - j - 1) j (by omega)
            have h1 : (listed.setIfInBounds front.length true).getD j false = true := by rw [getD_set_ne false (Ne.symm e)]; exact this
            have hj2 : j < (listed.setIfInBounds front.length true).size := by simp; omega
            rw [Array.getD_eq_getD_getElem?, Array.getElem?_eq_getElem hj2] at h1
            simp only [Option.getD_some] at h1
            rw [Array.getD_eq_getD_getElem?, Array.getElem?_eq_getElem hj2] at h0
            simp only [Option.getD_some] at h0
            rw [h1] at h0
            cases h0
      cases fuel with
      | zero => exact ⟨hr, hq⟩
      | succ f => exact ⟨fun _ => hq, fun i hi => by rw [hr] at hi; cases hi⟩

/-- THE LAW: a region that draws its order, some of whose operations turn memory, each behind the one before; the last operation is the prover's. -/
theorem wpIn_region_phaseQ {id : Nat} {a : Act} {w0 : World} (mk : (Nat → Value) → Array Value) (G : Nat → Value → Prop) (J : Nat → (Nat → Value) → World → Prop) (ms : List Nat) (lim : Nat → Nat) (df : List Deferred) (u0 : Nat → Value) (ha : a = ⟨mk u0, df⟩) (hm : P.follows .mixedOrders = true)
    (n : Nat) (last : Oper) (hn : ops.size = n + 1) (hl : ops[n]? = some last) (ht : tidyL ops n = true) (hch : chainOk ops ms = true) (hmn : ms.all (fun m => decide (m < n)) = true) (hnd : ms.Nodup) (hp : PutsQ mk df (ops.toList.take n))
    (hJ : ∀ q u u' w, (∀ m ∈ ms, u (slotOf ops m) = u' (slotOf ops m)) → J q u w → J q u' w) (hJ0 : J 0 u0 w0.drew)
    (hlim : limOk ops ms lim n = true) (hs : StepsQI F P ops Q mk df G J ms lim 0 (ops.toList.take n))
    (hend : ∀ u w, J ms.length u w → Alls (fun t v _ => G t v) u w (ops.toList.take n) → ∀ K : Act → World → Prop, Shut (∀ a w', Q .normal a w' → K a w') →
      if Region.wanted last (yielded ops (mk u)) = true then Oper.wpIn F 0 P last ⟨mk u, df⟩ w K Q else (∀ f, last.about P w (⟨mk u, df⟩ : Act).eval = some f → F.fn f) ∧ K ((⟨mk u, df⟩ : Act).put last.dst undef) w) : (Code.region id ops true).wpIn F 0 P Q a w0 := by
  subst ha
  have hlen : (ops.toList.take n).length = n := by simp; omega
  have hops : ops.toList = ops.toList.take n ++ [last] := by
    have h1 : ops.toList[n]? = some last := by simpa using hl
    obtain ⟨h2, h3⟩ := List.getElem?_eq_some_iff.1 h1
    have h4 := List.take_succ_eq_append_getElem h2
    rw [h3] at h4
    rw [← h4, List.take_of_length_le (by simp; omega)]
  refine wpIn_region_any hm (phaseQI_go (ops.toList.take n) last ms hops (by rw [hlen]; exact ht) hch (by rw [hlen]; exact hmn) hnd hp hJ (by rw [hlen]; exact hlim) hs hend _ _ u0 _ (by simp) ?_ (rep_getD _ _) ?_ ⟨0, Nat.zero_le _, fun k _ hk => by omega, fun k _ _ => rep_getD _ _, hJ0⟩ ?_)
  · have := List.countP_le_length (p := fun b => !b) (l := (Array.replicate ops.size false).toList)
    simpa using this
  · intro i o e h
    rw [rep_getD] at h
    cases h
  · intro i hi h
    rw [rep_getD] at h
    cases h
end

section
variable {P : Program} {ops : Array Oper} {Q : Exit → Act → World → Prop} {G : Nat → Value → Prop} {J : Nat → (Nat → Value) → World → Prop} {mk : (Nat → Value) → Array Value} {df : List Deferred} {lim : Nat → Nat}
theorem StepRQ.inI {l lm : Nat} {o : Oper} (hd : ∀ c, o.op ≠ .defer c) (h : StepRQ P ops Q mk df G J lm o) : StepRQI (Fence.wide.inRound l) P ops Q mk df G J lm o := fun q hq u w hj hD K hK => by
  have := h q hq u w hj hD K hK
  by_cases hw : Region.wanted o (yielded ops (mk u)) = true
  · rw [if_pos hw] at this ⊢
    exact oper_in hd this
  · rw [if_neg hw] at this ⊢
    exact ⟨fun _ _ => trivial, this⟩
theorem StepWQ.inI {l q : Nat} {o : Oper} (hd : ∀ c, o.op ≠ .defer c) (h : StepWQ P ops Q mk df G J q o) : StepWQI (Fence.wide.inRound l) P ops Q mk df G J q o := fun u w hj hD K hK => by
  have := h u w hj hD K hK
  by_cases hw : Region.wanted o (yielded ops (mk u)) = true
  · rw [if_pos hw] at this ⊢
    exact oper_in hd this
  · rw [if_neg hw] at this ⊢
    exact ⟨fun _ _ => trivial, this⟩
theorem last_in {l : Nat} {o : Oper} {a : Act} {w : World} {K : Act → World → Prop} (hd : ∀ c, o.op ≠ .defer c) {b : Prop} [Decidable b] {E : Prop} (h : if b then Oper.wp P o a w K Q else E) : if b then Oper.wpIn (Fence.wide.inRound l) 0 P o a w K Q else (∀ f, o.about P w a.eval = some f → (Fence.wide.inRound l).fn f) ∧ E := by
  by_cases hw : b
  · rw [if_pos hw] at h ⊢
    exact oper_in hd h
  · rw [if_neg hw] at h ⊢
    exact ⟨fun _ _ => trivial, h⟩
/-- A call of yield. -/
theorem step_yield {l l0 : Nat} {o : Oper} {a : Act} {w : World} {K : Act → World → Prop} {E : Prop} {R : Ending → World → Prop} (hgd : o.guard = none) (x y : Operand) (t : TypeId) (v : Value) (ho : o.op = .call { callee := .value x, args := #[y], argTypes := #[t] })
    (hx : a.eval x = .func (.yield l0) #[] #[]) (hy : a.eval y = v) (hY : YieldAt Fence.wide 0 P l0 #[v] w R) (h : ∀ e w', R e w' → ∃ u, e = .returned u ∧ K (a.put o.dst u) w') : if Region.wanted o (yielded ops a.tmps) = true then Oper.wpIn (Fence.wide.inRound l) 0 P o a w K Q else E := by
  rw [if_pos (by simp [Region.wanted, hgd])]
  obtain ⟨fn, tm, asg, bd, hyr, hR⟩ := hY
  unfold Oper.wpIn
  refine ⟨fun _ _ => trivial, ?_⟩
  rw [show (Fence.wide.inRound l).round = some l from rfl, Oper.semAt_some l _ _ (fun c e => by rw [ho] at e; cases e)]
  have hrun : (execOp a.eval o).run P w = .ok (.round l0 fn tm asg bd) w := by
    simp [execOp, ho, resolve, hx, hy, invoke, Result.andThen]
    simp [Deferred.ofValue, go_sem, hyr]
  rw [hrun]
  refine ⟨fun e => by simp [Fence.wide, Fence.inRound] at e, ?_⟩
  have hR2 : RoundIn (Fence.wide.inRound l) 0 P l0 fn tm asg bd w R := hR
  refine RoundIn.mono hR2 ?_
  intro e w' hr
  obtain ⟨u, rfl, hk⟩ := h e w' hr
  exact hk
end
end Go.Proofs.YtehfcfpbjenmjaaDoor
