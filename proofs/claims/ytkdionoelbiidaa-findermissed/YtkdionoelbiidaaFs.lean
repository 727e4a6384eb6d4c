/- What is asked of the program's finders ('FinSpec'); of no statement by itself. -/
import Derived.Test.YtkdionoelbiidaaRg
import Derived.Test.YtkdionoelbiidaaFm
import Derived.Test.YtkdionoelbiidaaWb
import Derived.OwnWalkIn
import Derived.TacticsInMore
import Derived.LoopNIn
import Derived.LoopIn
import Derived.Shelf.Abstract
namespace Go.Proofs.Ytkdionoelbiidaa
open Go.RowKit
set_option linter.unusedVariables false

/-- A match as a value; matches as the cells of a list. -/
def mval (m : Nat × Nat) : Value := .agg #[.int .i64 (m.1 : Int), .int .i64 (m.2 : Int)]
def mcells : List (Nat × Nat) → List Value
  | [] => []
  | m :: l => .int .i64 (m.1 : Int) :: .int .i64 (m.2 : Int) :: mcells l
theorem mcells_len : ∀ l, (mcells l).length = l.length * 2
  | [] => rfl
  | m :: l => by simp [mcells, mcells_len l]; omega
theorem mcells_app : ∀ a b, mcells (a ++ b) = mcells a ++ mcells b
  | [], b => rfl
  | m :: a, b => by simp [mcells, mcells_app a b]
theorem mcells_at : ∀ (l : List (Nat × Nat)) (k : Nat) (m : Nat × Nat), l[k]? = some m → (mcells l)[2 * k]? = some (.int .i64 (m.1 : Int)) ∧ (mcells l)[2 * k + 1]? = some (.int .i64 (m.2 : Int))
  | [], k, m, h => by simp at h
  | x :: l, 0, m, h => by simp at h; subst h; simp [mcells]
  | x :: l, k + 1, m, h => by
    have := mcells_at l k m (by simpa using h)
    rw [show 2 * (k + 1) = 2 * k + 1 + 1 by omega]
    simpa [mcells] using this
theorem func_nil (gf : Nat) (lb : Array Value) (w : World) : (binOp .eql 42 (.func (.func gf) #[] lb) .nilFunc).run Try.prog w = .ok (.bool false) w := by kernel_rfl
/-- A finder that has gone on. -/
structure Fwd {Γ : Type} (le : Γ → Γ → Prop) (foot : Γ → Nat → Prop) (γ γ' : Γ) (w w' : World) : Prop where
  le : le γ γ'
  chg : Chg (foot γ) w w'
  grow : ∀ z, foot γ' z → foot γ z ∨ w.heap.size ≤ z
structure FinSpec {Γ : Type} (le : Γ → Γ → Prop) (foot : Γ → Nat → Prop) (mp : Γ → Nat) (Fin : Γ → World → Nat → Nat → List Nat → Nat → Nat → Prop) (Sq : World → Value → (Nat → Prop) → Nat → Int → Prop) : Prop where
  refl : ∀ γ, le γ γ
  trans : ∀ {a b c}, le a b → le b c → le a c
  mpEq : ∀ {γ γ'}, le γ γ' → mp γ' = mp γ
  lt : ∀ {γ w B a d n p}, Fin γ w B a d n p → ∀ z, foot γ z → B ≤ z ∧ z < w.heap.size
  mpLt : ∀ {γ w B a d n p}, Fin γ w B a d n p → B ≤ mp γ ∧ mp γ < w.heap.size
  cel : ∀ {γ w B a d n p}, Fin γ w B a d n p → ∀ z, foot γ z → z = mp γ ∨ ∃ cs t fz, w.heap[z]? = some (.cells cs t fz)
  keep : ∀ {γ w w' B a d n p} {S : Nat → Prop}, Fin γ w B a d n p → Chg S w w' → (∀ z, foot γ z → ¬ S z) → Fin γ w' B a d n p
  down : ∀ {γ w B B' a d n p}, Fin γ w B a d n p → B' ≤ B → Fin γ w B' a d n p
  num : ∀ {γ w B a d n p}, Fin γ w B a d n p → 1 ≤ n ∧ n ≤ 4294967295 ∧ p ≤ d.length ∧ d.length ≤ 140737488355328
  newOut : ∀ (ad : Option Addr) (m c : Nat) (n : Int) (w : World), n < 1 ∨ 4294967295 < n → Calls Try.prog 8 #[.slice ad m c, .int .i64 n] w fun e w' => e = .returned (.tuple #[.pointer none, .int .i64 6]) ∧ Chg (fun _ => False) w w'
  newIn : ∀ (ad : Option Addr) (m c : Nat) (d : List Nat) (n : Nat) (w : World), Row8 w ad m c (nums d) → Rc.Dig d → m ≤ c → m ≤ 140737488355328 → 1 ≤ n → n ≤ 4294967295 → Calls Try.prog 8 #[.slice ad m c, .int .i64 (n : Int)] w fun e w' => ∃ γ a, e = .returned (.tuple #[.pointer (some ⟨a, 0, none⟩), .int .i64 0]) ∧ Fin γ w' w.heap.size a d n 0 ∧ Chg (fun _ => False) w w'
  pos : ∀ (γ : Γ) (B a : Nat) (d : List Nat) (n p : Nat) (w : World), Fin γ w B a d n p → Calls Try.prog 16 #[.pointer (some ⟨a, 0, none⟩)] w fun e w' => e = .returned (.int .i64 (p : Int)) ∧ Chg (fun _ => False) w w'
  skipOut : ∀ (γ : Γ) (B a : Nat) (d : List Nat) (n p : Nat) (k : Int) (w : World), Fin γ w B a d n p → I64 k → k < 0 ∨ ((d.length - p : Nat) : Int) < k → Calls Try.prog 13 #[.pointer (some ⟨a, 0, none⟩), .int .i64 k] w fun e w' => e = .returned (.int .i64 7) ∧ Chg (fun _ => False) w w'
  skipIn : ∀ (γ : Γ) (B a : Nat) (d : List Nat) (n p k : Nat) (w : World), Fin γ w B a d n p → B ≤ w.heap.size → p + k ≤ d.length → Calls Try.prog 13 #[.pointer (some ⟨a, 0, none⟩), .int .i64 (k : Int)] w fun e w' => e = .returned (.int .i64 0) ∧ ∃ γ', Fwd le foot γ γ' w w' ∧ Fin γ' w' B a d n (p + k)
  best : ∀ (γ : Γ) (B a : Nat) (d : List Nat) (n p : Nat) (most : Int) (w : World), Fin γ w B a d n p → I64 most → Calls Try.prog 11 #[.pointer (some ⟨a, 0, none⟩), .int .i64 most] w fun e w' => e = .returned (mval (bestM (mat d n p most))) ∧ Chg (fun _ => False) w w'
  mats : ∀ (γ : Γ) (B a : Nat) (d : List Nat) (n p : Nat) (most : Int) (w : World), Fin γ w B a d n p → I64 most → Calls Try.prog 17 #[.pointer (some ⟨a, 0, none⟩), .int .i64 most] w fun e w' => ∃ v sf, e = .returned v ∧ Sq w' v sf a most ∧ Chg (fun _ => False) w w' ∧ ∀ z, sf z → w.heap.size ≤ z
  sqLt : ∀ {w v sf a most}, Sq w v sf a most → ∀ z, sf z → ∃ cs t fz, w.heap[z]? = some (.cells cs t fz)
  sqKeep : ∀ {w w' v sf a most} {S : Nat → Prop}, Sq w v sf a most → Chg S w w' → (∀ z, sf z → ¬ S z) → Sq w' v sf a most
  iter : ∀ {w v sf a most}, Sq w v sf a most → ∃ gf lb, v = .func (.func gf) #[] lb ∧ (∀ args w, (callFunc gf args).run Try.prog w = .ok (.enter gf args) w) ∧
    ∀ (γ : Γ) (B : Nat) (d : List Nat) (n p : Nat), Iter Try.prog gf lb ((mat d n p most).map mval) (fun W => Fin γ W B a d n p ∧ Sq W v sf a most) (fun W => ∃ γ' p', le γ γ' ∧ Fin γ' W B a d n p' ∧ Sq W v sf a most)

section
variable {Γ : Type} {le : Γ → Γ → Prop} {foot : Γ → Nat → Prop} {mp : Γ → Nat} {Fin : Γ → World → Nat → Nat → List Nat → Nat → Nat → Prop} {Sq : World → Value → (Nat → Prop) → Nat → Int → Prop}
theorem FinSpec.new (S : FinSpec le foot mp Fin Sq) {γ : Γ} {w w' : World} {B a : Nat} {d : List Nat} {n p : Nat} (h : Fin γ w B a d n p) (hc : Chg (fun _ => False) w w') : Fin γ w' B a d n p := S.keep h hc (fun _ _ f => f)
theorem FinSpec.sqNew (S : FinSpec le foot mp Fin Sq) {w w' : World} {v : Value} {sf : Nat → Prop} {a : Nat} {most : Int} (h : Sq w v sf a most) (hc : Chg (fun _ => False) w w') : Sq w' v sf a most := S.sqKeep h hc (fun _ _ f => f)
theorem FinSpec.turn (S : FinSpec le foot mp Fin Sq) {γ : Γ} {w w' : World} {B a : Nat} {d : List Nat} {n p B0 : Nat} (h : Fin γ w B a d n p) (hc : Turn B0 w w') (hB : mp γ < B0) : Fin γ w' B a d n p := S.keep h hc (fun z f g => by
  obtain ⟨g1, o, g2, g3⟩ := g
  rcases S.cel h z f with e | ⟨cs, t, fz, e⟩
  · omega
  · rw [e] at g2; cases g2; cases g3)
theorem FinSpec.sqTurn (S : FinSpec le foot mp Fin Sq) {w w' : World} {v : Value} {sf : Nat → Prop} {a : Nat} {most : Int} {B0 : Nat} (h : Sq w v sf a most) (hc : Turn B0 w w') : Sq w' v sf a most := S.sqKeep h hc (fun z f g => by
  obtain ⟨g1, o, g2, g3⟩ := g
  obtain ⟨cs, t, fz, e⟩ := S.sqLt h z f
  rw [e] at g2; cases g2; cases g3)
end
end Go.Proofs.Ytkdionoelbiidaa
