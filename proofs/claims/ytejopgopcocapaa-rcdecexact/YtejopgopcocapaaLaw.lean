/- The contracts of worth, number, lays and begun; of no statement by themselves. -/
import Derived.Test.YtejopgopcocapaaEnC
import Derived.Test.YtejopgopcocapaaEnE
import Derived.Test.YtejopgopcocapaaEnF
import Derived.Test.YtejopgopcocapaaBk
namespace Go.Proofs.Ytejopgopcocapaa
open Go.RowKit
set_option linter.unusedVariables false

theorem row8_own {w : World} {B : Nat} {ad : Option Addr} {c n : Nat} {xs : List Int} (h : w.ownsRow B 5 1 (.slice ad n c) n (ins .u8 xs)) : Row8 w ad n c xs := by
  have hl : n = xs.length := by have := h.1; simp [ins] at this; omega
  refine ⟨hl.symm, ?_⟩
  rcases h.2 with ⟨e0, e1⟩ | ⟨g, cap, cur, e0, _⟩
  · simp only [Value.slice.injEq] at e0
    exact .inl ⟨e0.1, e1, e0.2.2⟩
  · simp only [Value.slice.injEq, true_and] at e0
    obtain ⟨rfl, rfl⟩ := e0
    exact .inr ⟨_, rfl, fun j u hu => h.cells (g := g) rfl j u hu⟩
theorem conv_own {w : World} {B : Nat} {ad : Option Addr} {c n : Nat} {xs : List Int} (h : w.ownsRow B 5 1 (.slice ad n c) n (ins .u8 xs)) :
    (convert 22 9 (.slice ad n c)).run Try.prog w = .ok (.string (strOfNums xs)) w := Bk.conv8_here (row8_own h)

/-- The bytes as a string. -/
def sb (e : Rc.E) : ByteArray := strOfNums (nums (Rc.by_ e))
def wo (one : Bool) : Int := if one then 1 else 0
def num (i : Int) : Nat := (i % 5).toNat
theorem num_le (i : Int) : num i ≤ 4 := by unfold num; omega
theorem tm5 (i : Int) : (0 ≤ i → i.tmod 5 = i % 5) ∧ (i < 0 → i.tmod 5 = -((-i) % 5)) := by
  refine ⟨fun h => Int.tmod_eq_emod_of_nonneg h, fun h => ?_⟩
  have e : i.tmod 5 = -((-i).tmod 5) := by rw [Int.neg_tmod, Int.neg_neg]
  rw [e, Int.tmod_eq_emod_of_nonneg (by omega)]
/-- An encoder and a set of four. -/
structure Es (w : World) (B a s : Nat) (v u : Value) (e : Rc.E) (xs : List Int) : Prop where
  en : Enc w B a v e
  st : St w B s u xs
  inn : In31 xs
  len : xs.length = 4
  ok : Rc.Ok e
/-- What of it may change. -/
def Fe (a : Nat) (v u : Value) (z : Nat) : Prop := Foot a v z ∨ u.ownBlock = some z
theorem Es.keep {w w' : World} {S : Nat → Prop} {B a s : Nat} {v u : Value} {e : Rc.E} {xs : List Int} (h : Es w B a s v u e xs) (hc : Chg S w w') (h1 : ¬ S a) (h2 : ∀ g, v.ownBlock = some g → ¬ S g) (h3 : ¬ S s) (h4 : ∀ g, u.ownBlock = some g → ¬ S g) : Es w' B a s v u e xs := by
  obtain ⟨l, hE, hI⟩ := h.en
  exact ⟨⟨l, hE.keep hc h1 h2, hI⟩, h.st.keep hc h3 h4, h.inn, h.len, h.ok⟩
theorem Es.new {w w' : World} {B a s : Nat} {v u : Value} {e : Rc.E} {xs : List Int} (h : Es w B a s v u e xs) (hc : Chg (fun _ => False) w w') : Es w' B a s v u e xs := h.keep hc (fun f => f) (fun _ _ f => f) (fun f => f) (fun _ _ f => f)

def layE (e : Rc.E) (xs : List Int) (j : Nat) (one : Bool) : Rc.E := if h : j < xs.length then coded e xs[j] (wo one) else Rc.half e one
def layX (xs : List Int) (j : Nat) (one : Bool) : List Int := if h : j < xs.length then xs.set j (Prob.nx xs[j] (wo one)) else xs
theorem wo_dec (one : Bool) : decide (wo one ≠ 0) = one := by cases one <;> rfl
theorem layX_len (xs : List Int) (j : Nat) (one : Bool) : (layX xs j one).length = xs.length := by unfold layX; split <;> simp
theorem layX_in {xs : List Int} (h : In31 xs) (j : Nat) (one : Bool) : In31 (layX xs j one) := by
  unfold layX
  split
  · rename_i hj
    exact h.set j _ (Prob.nx_lo (h.at j hj).1 (h.at j hj).2)
  · exact h
theorem coded_ok {e : Rc.E} {p b : Int} (h : Rc.Ok e) (h1 : 31 ≤ p) (h2 : p ≤ 2017) : Rc.Ok (coded e p b) := by
  have hb := Rc.bound_in (R := e.R) (p := p.toNat) h.lo (by omega) (by omega)
  exact Rc.cut_ok h hb.1 hb.2 _
theorem layE_ok {e : Rc.E} {xs : List Int} (h : Rc.Ok e) (hI : In31 xs) (j : Nat) (one : Bool) : Rc.Ok (layE e xs j one) := by
  unfold layE
  split
  · rename_i hj
    exact coded_ok h (hI.at j hj).1 (hI.at j hj).2
  · exact Rc.half_ok h one
theorem widen_k (e : Rc.E) : e.k ≤ (Rc.widen e).k ∧ (Rc.widen e).k ≤ e.k + 1 := by
  unfold Rc.widen
  split
  · exact ⟨Nat.le_succ _, Nat.le_refl _⟩
  · exact ⟨Nat.le_refl _, Nat.le_succ _⟩
theorem cut_k (e : Rc.E) (b : Nat) (one : Bool) : e.k ≤ (Rc.cut e b one).k ∧ (Rc.cut e b one).k ≤ e.k + 1 := by
  cases one
  · exact widen_k ⟨e.L, b, e.k⟩
  · exact widen_k ⟨e.L + b, e.R - b, e.k⟩
theorem layE_k (e : Rc.E) (xs : List Int) (j : Nat) (one : Bool) : e.k ≤ (layE e xs j one).k ∧ (layE e xs j one).k ≤ e.k + 1 := by
  unfold layE
  split
  · exact cut_k _ _ _
  · exact half_k_le e one
theorem direct_one (e : Rc.E) (one : Bool) : direct (wo one).toNat 1 e = Rc.half e one := by cases one <;> rfl

def e0 : Rc.E := coded Rc.start 1024 1
def x0 : List Int := [Prob.nx 1024 1, 1024, 1024, 1024]
theorem in_x0 : In31 x0 := (In31.half 4).set 0 _ (Prob.nx_lo (by omega) (by omega))
theorem sb_start : sb Rc.start = ⟨#[0, 0, 0, 0, 0]⟩ := by decide +kernel
theorem sb_e0 : sb e0 = ⟨#[0, 127, 255, 252, 0]⟩ := by decide +kernel
theorem ptr_ne (t : TypeId) (x : Addr) (w : World) (ht : t = 76 ∨ t = 32) : (binOp .eql t (.pointer (some x)) (.pointer none)).run Try.prog w = .ok (.bool false) w := by
  rcases ht with rfl | rfl <;> kernel_rfl

end Go.Proofs.Ytejopgopcocapaa
