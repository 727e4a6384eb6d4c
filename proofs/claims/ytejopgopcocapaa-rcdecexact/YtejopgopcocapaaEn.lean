/- The program's encoder in memory ('En') and the contracts of New and size; of no statement by themselves. -/
import Derived.Test.YtejopgopcocapaaRefB
import Derived.Test.YtejopgopcocapaaLow
namespace Go.Proofs.Ytejopgopcocapaa
open Go.RowKit
set_option linter.unusedVariables false

/-- The program's encoder at a: its low end l (settled digits: the slice v), its range. -/
structure En (w : World) (B a : Nat) (v : Value) (l : Rc.Lo) (R : Nat) : Prop where
  hr : B ≤ a
  blk : w.heap[a]? = some (.cells #[v, .int .u8 (l.h : Int), .int .i64 (l.r : Int), .int .u32 (l.t : Int), .int .u32 (R : Int)] 96 (0, 0))
  own : w.ownsRow B 5 1 v l.s.length (ins .u8 (nums l.s))
theorem En.keep {w w' : World} {S : Nat → Prop} {B a : Nat} {v : Value} {l : Rc.Lo} {R : Nat} (h : En w B a v l R) (hc : Chg S w w') (hr : ¬ S a) (hv : ∀ g, v.ownBlock = some g → ¬ S g) : En w' B a v l R :=
  ⟨h.hr, blk_keep h.blk hc hr, ownsRow_keep h.own hc hv⟩
theorem En.new {w w' : World} {B a : Nat} {v : Value} {l : Rc.Lo} {R : Nat} (h : En w B a v l R) (hc : Chg (fun _ => False) w w') : En w' B a v l R := h.keep hc (fun f => f) (fun _ _ f => f)
theorem En.lt {w : World} {B a R : Nat} {v : Value} {l : Rc.Lo} (h : En w B a v l R) : a < w.heap.size := lt_of_blk h.blk
theorem En.ne {w : World} {B a R : Nat} {v : Value} {l : Rc.Lo} (h : En w B a v l R) : v.ownBlock ≠ some a := fun e => by
  obtain ⟨cur, hcur⟩ := owns_blk h.own e
  exact ty_ne h.blk hcur (by decide)

theorem cells5 {w : World} {a : Nat} {x0 x1 x2 x3 x4 : Value} {t : TypeId} (h : w.heap[a]? = some (.cells #[x0, x1, x2, x3, x4] t (0, 0))) : w.cell? ⟨a, 0, none⟩ = some x0 ∧ w.cell? ⟨a, 1, none⟩ = some x1 ∧ w.cell? ⟨a, 2, none⟩ = some x2 ∧ w.cell? ⟨a, 3, none⟩ = some x3 ∧ w.cell? ⟨a, 4, none⟩ = some x4 ∧ ∀ j, w.frozen? ⟨a, j, none⟩ = false :=
  ⟨by simp [World.cell?, h], by simp [World.cell?, h], by simp [World.cell?, h], by simp [World.cell?, h], by simp [World.cell?, h], fun j => by simp [World.frozen?, h]⟩

theorem En.setH {w : World} {B a R : Nat} {v : Value} {l : Rc.Lo} (h : En w B a v l R) (x : Nat) (q : Int) (hq : q = (x : Int)) : En (w.setCell ⟨a, 1, none⟩ (.int .u8 q)) B a v ⟨l.s, x, l.r, l.t⟩ R ∧ Chg (fun z => z = a) w (w.setCell ⟨a, 1, none⟩ (.int .u8 q)) := by
  have c1 : Chg (fun z => z = a) w (w.setCell ⟨a, 1, none⟩ (.int .u8 q)) := (Chg.refl (fun z => z = a) w).setCell (p := ⟨a, 1, none⟩) (.inl rfl) _
  subst hq
  exact ⟨⟨h.hr, blk_setk (l := [v, .int .u8 (l.h : Int), .int .i64 (l.r : Int), .int .u32 (l.t : Int), .int .u32 (R : Int)]) h.blk 1 _, ownsRow_keep h.own c1 (fun g e e2 => h.ne (by rw [← e2]; exact e))⟩, c1⟩
theorem En.setN {w : World} {B a R : Nat} {v : Value} {l : Rc.Lo} (h : En w B a v l R) (x : Nat) (q : Int) (hq : q = (x : Int)) : En (w.setCell ⟨a, 2, none⟩ (.int .i64 q)) B a v ⟨l.s, l.h, x, l.t⟩ R ∧ Chg (fun z => z = a) w (w.setCell ⟨a, 2, none⟩ (.int .i64 q)) := by
  have c1 : Chg (fun z => z = a) w (w.setCell ⟨a, 2, none⟩ (.int .i64 q)) := (Chg.refl (fun z => z = a) w).setCell (p := ⟨a, 2, none⟩) (.inl rfl) _
  subst hq
  exact ⟨⟨h.hr, blk_setk (l := [v, .int .u8 (l.h : Int), .int .i64 (l.r : Int), .int .u32 (l.t : Int), .int .u32 (R : Int)]) h.blk 2 _, ownsRow_keep h.own c1 (fun g e e2 => h.ne (by rw [← e2]; exact e))⟩, c1⟩
theorem En.setT {w : World} {B a R : Nat} {v : Value} {l : Rc.Lo} (h : En w B a v l R) (x : Nat) (q : Int) (hq : q = (x : Int)) : En (w.setCell ⟨a, 3, none⟩ (.int .u32 q)) B a v ⟨l.s, l.h, l.r, x⟩ R ∧ Chg (fun z => z = a) w (w.setCell ⟨a, 3, none⟩ (.int .u32 q)) := by
  have c1 : Chg (fun z => z = a) w (w.setCell ⟨a, 3, none⟩ (.int .u32 q)) := (Chg.refl (fun z => z = a) w).setCell (p := ⟨a, 3, none⟩) (.inl rfl) _
  subst hq
  exact ⟨⟨h.hr, blk_setk (l := [v, .int .u8 (l.h : Int), .int .i64 (l.r : Int), .int .u32 (l.t : Int), .int .u32 (R : Int)]) h.blk 3 _, ownsRow_keep h.own c1 (fun g e e2 => h.ne (by rw [← e2]; exact e))⟩, c1⟩
theorem En.setR {w : World} {B a R : Nat} {v : Value} {l : Rc.Lo} (h : En w B a v l R) (x : Nat) (q : Int) (hq : q = (x : Int)) : En (w.setCell ⟨a, 4, none⟩ (.int .u32 q)) B a v l x ∧ Chg (fun z => z = a) w (w.setCell ⟨a, 4, none⟩ (.int .u32 q)) := by
  have c1 : Chg (fun z => z = a) w (w.setCell ⟨a, 4, none⟩ (.int .u32 q)) := (Chg.refl (fun z => z = a) w).setCell (p := ⟨a, 4, none⟩) (.inl rfl) _
  subst hq
  exact ⟨⟨h.hr, blk_setk (l := [v, .int .u8 (l.h : Int), .int .i64 (l.r : Int), .int .u32 (l.t : Int), .int .u32 (R : Int)]) h.blk 4 _, ownsRow_keep h.own c1 (fun g e e2 => h.ne (by rw [← e2]; exact e))⟩, c1⟩

/-- Behind an append to the settled digits: the encoder is still there, and the new list is written. -/
theorem En.pushed {w w1 w2 : World} {B a R x : Nat} {v v2 : Value} {l : Rc.Lo} (h : En w B a v l R) (hc : Chg (fun _ => False) w w1) (ho : w2.ownsRow B 5 1 v2 (l.s.length + 1) (ins .u8 (nums l.s) ++ [.int .u8 (x : Int)])) (hg : w1.grownBy w2 v.ownBlock) :
    w2.heap[a]? = some (.cells #[v, .int .u8 (l.h : Int), .int .i64 (l.r : Int), .int .u32 (l.t : Int), .int .u32 (R : Int)] 96 (0, 0)) ∧ En (w2.setCell ⟨a, 0, none⟩ v2) B a v2 ⟨l.s ++ [x], l.h, l.r, l.t⟩ R ∧ Chg (Foot a v) w (w2.setCell ⟨a, 0, none⟩ v2) := by
  have h1 := h.new hc
  have c3 : Chg (fun z => v.ownBlock = some z) w1 w2 := (Chg.refl _ w1).grown hg (fun k e => .inl e)
  have b3 := blk_keep h1.blk c3 h1.ne
  have c4 : Chg (fun z => z = a) w2 (w2.setCell ⟨a, 0, none⟩ v2) := (Chg.refl (fun z => z = a) w2).setCell (p := ⟨a, 0, none⟩) (.inl rfl) _
  have b4 := blk_setk (l := [v, .int .u8 (l.h : Int), .int .i64 (l.r : Int), .int .u32 (l.t : Int), .int .u32 (R : Int)]) b3 0 v2
  refine ⟨b3, ⟨h.hr, b4, ?_⟩, ?_⟩
  · have e : ins .u8 (nums (l.s ++ [x])) = ins .u8 (nums l.s) ++ [.int .u8 (x : Int)] := by simp [ins, nums]
    show World.ownsRow _ _ _ _ _ (l.s ++ [x]).length _
    rw [List.length_append, e]
    refine ownsRow_keep ho c4 (fun g e e2 => ?_)
    obtain ⟨cur, hcur⟩ := owns_blk ho e
    rw [e2] at hcur
    exact ty_ne b3 hcur (by decide)
  · exact (((hc.mono (T := Foot a v) (fun _ f => f.elim)).trans c3 (fun _ e => .inl (.inr e))).trans c4 (fun _ e => .inl (.inl e)))
theorem moved_from {w w1 : World} {v v2 : Value} (hs : w.heap.size ≤ w1.heap.size) (hm : Moved w1 v v2) : Moved w v v2 := fun g e => by
  rcases hm g e with e | e
  · exact .inl e
  · exact .inr (by omega)

set_option maxHeartbeats 1000000 in
set_option maxRecDepth 100000 in
theorem rcnew_any (w : World) : Calls Try.prog 30 #[] w fun e w' => ∃ a, e = .returned (.pointer (some ⟨a, 0, none⟩)) ∧ w.heap.size ≤ a ∧ En w' w.heap.size a (.slice none 0 0) Rc.begin_ 4294967295 ∧ Chg (fun _ => False) w w' := by
  go_enter Try.func30, Try.ntmps30
  go_wp2
  go_ret
  exact ⟨_, rfl, Nat.le_refl _, ⟨Nat.le_refl _, heap_alloc_last w _, World.ownsRow_nil _ _ _ _⟩, chg_one w _⟩
end Go.Proofs.Ytejopgopcocapaa
