/- Arguments in memory; encoders beside one another; of no statement by themselves. -/
import Derived.Test.YtejopgopcocapaaLaw
namespace Go.Proofs.Ytejopgopcocapaa
open Go.RowKit
set_option linter.unusedVariables false

def Bits (w : World) (a : Option Addr) (n : Nat) : Prop := ∀ k, k < n → ∃ b off, a = some ⟨b, off, none⟩ ∧ ∃ i one, w.cell? ⟨b, off + k * 2, none⟩ = some (.int .i64 i) ∧ w.cell? ⟨b, off + k * 2 + 1, none⟩ = some (.bool one) ∧ I64 i
theorem Bits.new {w w' : World} {a : Option Addr} {n : Nat} (h : Bits w a n) (hc : Chg (fun _ => False) w w') : Bits w' a n := fun k hk => by
  obtain ⟨b, off, e, i, one, h0, h1, hi⟩ := h k hk
  exact ⟨b, off, e, i, one, cell_chg h0 hc, cell_chg h1 hc, hi⟩
def Words (w : World) (a : Option Addr) (n : Nat) : Prop := ∀ k, k < n → ∃ b off, a = some ⟨b, off, none⟩ ∧ ∃ x : Nat, w.cell? ⟨b, off + k, none⟩ = some (.int .u32 (x : Int)) ∧ x ≤ 4294967295
theorem Words.new {w w' : World} {a : Option Addr} {n : Nat} (h : Words w a n) (hc : Chg (fun _ => False) w w') : Words w' a n := fun k hk => by
  obtain ⟨b, off, e, i, h0, hi⟩ := h k hk
  exact ⟨b, off, e, i, cell_chg h0 hc, hi⟩
def Ints (w : World) (a : Option Addr) (n : Nat) : Prop := ∀ k, k < n → ∃ b off, a = some ⟨b, off, none⟩ ∧ ∃ i : Int, w.cell? ⟨b, off + k, none⟩ = some (.int .i64 i)
theorem Ints.new {w w' : World} {a : Option Addr} {n : Nat} (h : Ints w a n) (hc : Chg (fun _ => False) w w') : Ints w' a n := fun k hk => by
  obtain ⟨b, off, e, i, h0⟩ := h k hk
  exact ⟨b, off, e, i, cell_chg h0 hc⟩

/-- Nothing in common. -/
def Dis (F G : Nat → Prop) : Prop := ∀ z, F z → G z → False
theorem Dis.symm {F G : Nat → Prop} (h : Dis F G) : Dis G F := fun z g f => h z f g

theorem Enc.foot_lt {w : World} {B a : Nat} {v : Value} {e : Rc.E} (h : Enc w B a v e) {z : Nat} (f : Foot a v z) : B ≤ z ∧ z < w.heap.size := by
  obtain ⟨l, hE, _⟩ := h
  rcases f with rfl | f
  · exact ⟨hE.hr, hE.lt⟩
  · exact hE.own.lt z f
theorem Enc.new {w w' : World} {B a : Nat} {v : Value} {e : Rc.E} (h : Enc w B a v e) (hc : Chg (fun _ => False) w w') : Enc w' B a v e := by
  obtain ⟨l, hE, hI⟩ := h
  exact ⟨l, hE.new hc, hI⟩
theorem Enc.keep {w w' : World} {S : Nat → Prop} {B a : Nat} {v : Value} {e : Rc.E} (h : Enc w B a v e) (hc : Chg S w w') (hd : Dis S (Foot a v)) : Enc w' B a v e := by
  obtain ⟨l, hE, hI⟩ := h
  exact ⟨l, hE.keep hc (fun f => hd a f (.inl rfl)) (fun g e f => hd g f (.inr e)), hI⟩
theorem Enc.chg {w w1 w2 : World} {B a : Nat} {v : Value} {e : Rc.E} (h : Enc w1 B a v e) (hc : Chg (fun _ => False) w w1) (hs : w.heap.size ≤ B) (c2 : Chg (Foot a v) w1 w2) : Chg (fun _ => False) w w2 :=
  hc.trans c2 (fun z f => .inr (Nat.le_trans hs (h.foot_lt f).1))
theorem dis_moved {w : World} {a : Nat} {v v' : Value} {G : Nat → Prop} (hd : Dis (Foot a v) G) (hG : ∀ z, G z → z < w.heap.size) (hm : Moved w v v') : Dis (Foot a v') G := fun z f g => by
  rcases hm.foot a z f with h | h
  · exact hd z h g
  · have := hG z g
    omega

theorem Es.fe_lt {w : World} {B a s : Nat} {v u : Value} {e : Rc.E} {xs : List Int} (h : Es w B a s v u e xs) {z : Nat} (f : Fe a v u z) : B ≤ z ∧ z < w.heap.size := by
  rcases f with f | f
  · exact h.en.foot_lt f
  · exact h.st.own.lt z f
/-- A set is none of what an encoder and its set may change, but for its own row. -/
theorem Es.set_miss {w : World} {B B' a s s' : Nat} {v u u' : Value} {e : Rc.E} {xs xs' : List Int} (h : Es w B a s v u e xs) (h' : St w B' s' u' xs') : ¬ Fe a v u s' := fun f => by
  obtain ⟨l, hE, _⟩ := h.en
  rcases f with f | f
  · rcases f with f | f
    · have h1 := h'.blk
      rw [f] at h1
      exact ty_ne hE.blk h1 (by decide)
    · obtain ⟨cur, hcur⟩ := owns_blk hE.own f
      exact ty_ne hcur h'.blk (by decide)
  · obtain ⟨cur, hcur⟩ := owns_blk h.st.own f
    exact ty_ne hcur h'.blk (by decide)
theorem Es.beside {w w' : World} {B B' a s a' s' : Nat} {v u v' u' : Value} {e e' : Rc.E} {xs xs' : List Int} (h : Es w B a s v u e xs) (h' : Es w B' a' s' v' u' e' xs') (hd : Dis (Fe a v u) (Fe a' v' u')) (hc : Chg (Fe a v u) w w') : Es w' B' a' s' v' u' e' xs' :=
  h'.keep hc (fun f => hd _ f (.inl (.inl rfl))) (fun g e f => hd g f (.inl (.inr e))) (h.set_miss h'.st) (fun g e f => hd g f (.inr e))
theorem fe_moved {w : World} {a : Nat} {v v' u : Value} (hm : Moved w v v') {z : Nat} (f : Fe a v' u z) : Fe a v u z ∨ w.heap.size ≤ z := by
  rcases f with f | f
  · rcases hm.foot a z f with h | h
    · exact .inl (.inl h)
    · exact .inr h
  · exact .inl (.inr f)
theorem fe_dis {w : World} {a : Nat} {v v' u : Value} {G : Nat → Prop} (hd : Dis (Fe a v u) G) (hG : ∀ z, G z → z < w.heap.size) (hm : Moved w v v') : Dis (Fe a v' u) G := fun z f g => by
  rcases fe_moved hm f with h | h
  · exact hd z h g
  · have := hG z g
    omega
theorem Es.chg {w w1 w2 : World} {B a s : Nat} {v u : Value} {e : Rc.E} {xs : List Int} (h : Es w1 B a s v u e xs) (hc : Chg (fun _ => False) w w1) (hs : w.heap.size ≤ B) (c2 : Chg (Fe a v u) w1 w2) : Chg (fun _ => False) w w2 :=
  hc.trans c2 (fun z f => .inr (Nat.le_trans hs (h.fe_lt f).1))
end Go.Proofs.Ytejopgopcocapaa
