/- Two decoders of the same bytes under way, their rows and answers apart; of no statement by itself. -/
import Derived.Test.YtejopgopcocapaaKn
import Derived.Test.YtejopgopcocapaaAm
namespace Go.Proofs.Ytejopgopcocapaa
open Go.RowKit
set_option linter.unusedVariables false

/-- Where a decoder and its row lie. -/
def Zn (p1 p2 p5 p6 z : Nat) : Prop := (p1 ≤ z ∧ z < p2) ∨ (p5 ≤ z ∧ z < p6)
structure Run (Dec : World → Nat → Nat → Value → List Nat → Rc.D → Prop) (w : World) (p1 p2 p5 p6 a s : Nat) (v u : Value) (bs : List Nat) (d : Rc.D) (xs : List Int) : Prop where
  dec : Dec w p1 a v bs d
  st : St w p5 s u xs
  la : a < p2
  lv : ∀ g, v.ownBlock = some g → g < p2
  ls : s < p6
  lu : ∀ g, u.ownBlock = some g → g < p6
theorem Run.keep {Dec : World → Nat → Nat → Value → List Nat → Rc.D → Prop} (S : DecSpec Dec) {w w' : World} {p1 p2 p5 p6 a s : Nat} {v u : Value} {bs : List Nat} {d : Rc.D} {xs : List Int} {F : Nat → Prop} (h : Run Dec w p1 p2 p5 p6 a s v u bs d xs) (hc : Chg F w w') (hF : ∀ z, F z → Zn p1 p2 p5 p6 z → False) : Run Dec w' p1 p2 p5 p6 a s v u bs d xs :=
  ⟨S.keep h.dec hc (fun f => hF _ f (.inl ⟨S.base h.dec, h.la⟩)) (fun g e f => hF _ f (.inl ⟨((S.own h.dec).lt g e).1, h.lv g e⟩)), h.st.keep hc (fun f => hF _ f (.inr ⟨h.st.ha, h.ls⟩)) (fun g e f => hF _ f (.inr ⟨(h.st.own.lt g e).1, h.lu g e⟩)), h.la, h.lv, h.ls, h.lu⟩
theorem Run.foot {Dec : World → Nat → Nat → Value → List Nat → Rc.D → Prop} (S : DecSpec Dec) {w : World} {p1 p2 p5 p6 a s : Nat} {v u : Value} {bs : List Nat} {d : Rc.D} {xs : List Int} (h : Run Dec w p1 p2 p5 p6 a s v u bs d xs) {z : Nat} (f : Fd a u z) : Zn p1 p2 p5 p6 z := by
  rcases f with f | f
  · rw [f]; exact .inl ⟨S.base h.dec, h.la⟩
  · exact .inr ⟨(h.st.own.lt z f).1, h.lu z f⟩
/-- The two, what they have answered, what one alone answers. -/
structure Two (Dec : World → Nat → Nat → Value → List Nat → Rc.D → Prop) (w0 wr : World) (B8 : Nat) (bs : List Nat) (l : List Q) (D0 : Rc.D) (X0 : List Int) (lw : Value)
    (p1 p2 p5 p6 a s : Nat) (v u : Value) (r1 r2 r5 r6 b t : Nat) (y o : Value) (k1 k2 : Nat) (lx ly : Value) (vx vy : List Nat) (d1 d2 : Rc.D) (x1 x2 : List Int) : Prop where
  one : Run Dec wr p1 p2 p5 p6 a s v u bs d1 x1
  two : Run Dec wr r1 r2 r5 r6 b t y o bs d2 x2
  ap1 : Ap bs l D0 X0 k1 vx d1 x1
  ap2 : Ap bs l D0 X0 k2 vy d2 x2
  rx : wr.ownsRow B8 38 1 lx k1 (ins .u32 (nums vx))
  ry : wr.ownsRow B8 38 1 ly k2 (ins .u32 (nums vy))
  rw_ : wr.ownsRow B8 38 1 lw (decL bs l D0 X0).1.length (ins .u32 (nums (decL bs l D0 X0).1))
  nxy : ∀ g, lx.ownBlock = some g → ly.ownBlock ≠ some g
  nxw : ∀ g, lx.ownBlock = some g → lw.ownBlock ≠ some g
  nyw : ∀ g, ly.ownBlock = some g → lw.ownBlock ≠ some g
  sep : ∀ z, Zn p1 p2 p5 p6 z → Zn r1 r2 r5 r6 z → False
  low : ∀ z, Zn p1 p2 p5 p6 z ∨ Zn r1 r2 r5 r6 z → w0.heap.size ≤ z ∧ z < B8
  top : w0.heap.size ≤ B8
  big : B8 ≤ wr.heap.size
  chg : Chg (fun _ => False) w0 wr
section
variable {Dec : World → Nat → Nat → Value → List Nat → Rc.D → Prop} {w0 wr w1 w2 w' : World} {B8 : Nat} {bs : List Nat} {l : List Q} {D0 : Rc.D} {X0 : List Int} {lw : Value}
    {p1 p2 p5 p6 a s : Nat} {v u : Value} {r1 r2 r5 r6 b t : Nat} {y o : Value} {k1 k2 : Nat} {lx ly lx' lz : Value} {vx vy : List Nat} {d1 d2 : Rc.D} {x1 x2 : List Int}
theorem Two.swap (h : Two Dec w0 wr B8 bs l D0 X0 lw p1 p2 p5 p6 a s v u r1 r2 r5 r6 b t y o k1 k2 lx ly vx vy d1 d2 x1 x2) : Two Dec w0 wr B8 bs l D0 X0 lw r1 r2 r5 r6 b t y o p1 p2 p5 p6 a s v u k2 k1 ly lx vy vx d2 d1 x2 x1 :=
  ⟨h.two, h.one, h.ap2, h.ap1, h.ry, h.rx, h.rw_, fun g e f => h.nxy g f e, h.nyw, h.nxw, fun z f1 f2 => h.sep z f2 f1, fun z f => h.low z (f.elim .inr .inl), h.top, h.big, h.chg⟩
theorem Two.new (S : DecSpec Dec) (h : Two Dec w0 wr B8 bs l D0 X0 lw p1 p2 p5 p6 a s v u r1 r2 r5 r6 b t y o k1 k2 lx ly vx vy d1 d2 x1 x2) (hc : Chg (fun _ => False) wr w') : Two Dec w0 w' B8 bs l D0 X0 lw p1 p2 p5 p6 a s v u r1 r2 r5 r6 b t y o k1 k2 lx ly vx vy d1 d2 x1 x2 :=
  ⟨h.one.keep S hc (fun _ f _ => f), h.two.keep S hc (fun _ f _ => f), h.ap1, h.ap2, ownsRow_keep h.rx hc (fun _ _ f => f), ownsRow_keep h.ry hc (fun _ _ f => f), ownsRow_keep h.rw_ hc (fun _ _ f => f), h.nxy, h.nxw, h.nyw, h.sep, h.low, h.top, Nat.le_trans h.big hc.size, chg_then h.chg hc⟩
/-- The first one has answered: all but it and its row stands. -/
theorem Two.told (S : DecSpec Dec) {q : Q} {x : Nat} {d' : Rc.D} {xs' : List Int} (h : Two Dec w0 wr B8 bs l D0 X0 lw p1 p2 p5 p6 a s v u r1 r2 r5 r6 b t y o k1 k2 lx ly vx vy d1 d2 x1 x2) (hT : Told Dec wr w1 p1 p5 a s v u bs ([x], d', xs', true) lz) :
    w1.ownsRow B8 38 1 lx k1 (ins .u32 (nums vx)) ∧ w1.ownsRow wr.heap.size 38 1 lz 1 [.int .u32 (x : Int)] ∧ Chg (fun z => Zn p1 p2 p5 p6 z) wr w1 := by
  have hc : Chg (fun z => Zn p1 p2 p5 p6 z) wr w1 := hT.chg.mono (fun z f => .inl (h.one.foot S f))
  exact ⟨ownsRow_keep h.rx hc (fun g e f => by have := (h.rx.lt g e).1; have := (h.low g (.inl f)).2; omega), hT.row, hc⟩
/-- Its answer is put behind those that it gave before. -/
theorem Two.first (S : DecSpec Dec) {x : Nat} {d' : Rc.D} {xs' : List Int} (h : Two Dec w0 wr B8 bs l D0 X0 lw p1 p2 p5 p6 a s v u r1 r2 r5 r6 b t y o k1 k2 lx ly vx vy d1 d2 x1 x2) (hT : Told Dec wr w1 p1 p5 a s v u bs ([x], d', xs', true) lz) (hp : Ap bs l D0 X0 (k1 + 1) (vx ++ [x]) d' xs') (ho : w2.ownsRow B8 38 1 lx' (k1 + 1) (ins .u32 (nums vx) ++ [.int .u32 (x : Int)])) (hg : w1.grownBy w2 lx.ownBlock) (hm : Moved w1 lx lx') :
    Two Dec w0 w2 B8 bs l D0 X0 lw p1 p2 p5 p6 a s v u r1 r2 r5 r6 b t y o (k1 + 1) k2 lx' ly (vx ++ [x]) vy d' d2 xs' x2 := by
  have hc1 : Chg (fun z => Zn p1 p2 p5 p6 z) wr w1 := hT.chg.mono (fun z f => .inl (h.one.foot S f))
  have hc2 : Chg (fun z => lx.ownBlock = some z) w1 w2 := (Chg.refl _ w1).grown hg (fun k e => .inl e)
  have hhi : ∀ z, lx.ownBlock = some z → B8 ≤ z := fun z e => (h.rx.lt z e).1
  have hr1 : Run Dec w1 p1 p2 p5 p6 a s v u bs d' xs' := ⟨hT.dec, hT.st, h.one.la, h.one.lv, h.one.ls, h.one.lu⟩
  have hy1 := ownsRow_keep h.ry hc1 (fun g e f => by have := (h.ry.lt g e).1; have := (h.low g (.inl f)).2; omega)
  have hw1 := ownsRow_keep h.rw_ hc1 (fun g e f => by have := (h.rw_.lt g e).1; have := (h.low g (.inl f)).2; omega)
  refine ⟨hr1.keep S hc2 (fun z e f => by have := hhi z e; have := (h.low z (.inl f)).2; omega), (h.two.keep S hc1 (fun z f1 f2 => h.sep z f1 f2)).keep S hc2 (fun z e f => by have := hhi z e; have := (h.low z (.inr f)).2; omega), hp, h.ap2, ?_, ownsRow_keep hy1 hc2 (fun g e f => h.nxy g f e), ownsRow_keep hw1 hc2 (fun g e f => h.nxw g f e), ?_, ?_, h.nyw, h.sep, h.low, h.top, Nat.le_trans h.big (Nat.le_trans hc1.size hc2.size), ?_⟩
  · simpa [ins, nums] using ho
  · intro g e f
    rcases hm g e with e1 | e1
    · exact h.nxy g e1 f
    · have := (hy1.lt g f).2; omega
  · intro g e f
    rcases hm g e with e1 | e1
    · exact h.nxw g e1 f
    · have := (hw1.lt g f).2; omega
  · exact (h.chg.trans hc1 (fun z f => .inr (h.low z (.inl f)).1)).trans hc2 (fun z e => .inr (by have := hhi z e; have := h.top; omega))
end
theorem cnt_step {l : List Bool} {j : Nat} {f : Bool} (h : l[j]? = some f) : (l.take (j + 1)).countP id = (l.take j).countP id + (if f then 1 else 0) := by
  rw [List.take_add_one, h]
  cases f <;> simp
theorem cnt_le (l : List Bool) (j : Nat) : (l.take j).countP id ≤ j := Nat.le_trans (List.countP_le_length) (by rw [List.length_take]; omega)
end Go.Proofs.Ytejopgopcocapaa
