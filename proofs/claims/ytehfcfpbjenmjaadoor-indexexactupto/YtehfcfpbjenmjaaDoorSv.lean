/- What is asked of the program's states ('StSpec'), and the answers that the document fixes; of no statement by itself. -/
import Derived.Test.YtehfcfpbjenmjaaDoorBoundB
import Derived.Test.YtehfcfpbjenmjaaDoorBoundA
import Derived.BigQuiet
import Derived.Laws.StructEq
import Derived.Deep.QuietTactic
namespace Go.Proofs.YtehfcfpbjenmjaaDoor
open Go.RowKit
open St12
set_option linter.unusedVariables false
set_option linter.unusedSimpArgs false

def stv (s : Stt) : Value := .agg #[.int .i64 s.n, .int .i64 s.a, .int .i64 s.b, .int .i64 s.c, .int .i64 s.d]
def syv (y : Sym) : Value := .agg #[.int .i64 y.k, .int .u8 y.y, .int .i64 y.l, .int .i64 y.d]
def prv (p : Prp) : Value := .agg #[.int .i64 p.lc, .int .i64 p.lp, .int .i64 p.pb]
structure Stt.I (s : Stt) : Prop where
  n : I64 s.n
  a : I64 s.a
  b : I64 s.b
  c : I64 s.c
  d : I64 s.d
structure Sym.I (y : Sym) : Prop where
  k : I64 y.k
  l : I64 y.l
  d : I64 y.d
  y : 0 ≤ y.y ∧ y.y ≤ 255
structure Prp.I (p : Prp) : Prop where
  lc : I64 p.lc
  lp : I64 p.lp
  pb : I64 p.pb
structure StSpec (Tab : World → Prop) : Prop where
  keep : ∀ {w w'}, Tab w → Chg (fun _ => False) w w' → Tab w'
theorem nxt_fix : nxt st0 ⟨2, 0, 5, 9⟩ = (⟨7, 9, 1, 1, 1⟩, 0) := by kernel_rfl
theorem slot_fix : slotA 13 = (7, 0) := by decide +kernel
theorem byte_fix : byteP ⟨3, 0, 2⟩ = (93, 0) := by decide +kernel
theorem cells5 {w : World} {a : Nat} {x y z u v : Value} {t : TypeId} (h : w.heap[a]? = some (.cells #[x, y, z, u, v] t (0, 0))) : w.cell? ⟨a, 0, none⟩ = some x ∧ w.cell? ⟨a, 1, none⟩ = some y ∧ w.cell? ⟨a, 2, none⟩ = some z ∧ w.cell? ⟨a, 3, none⟩ = some u ∧ w.cell? ⟨a, 4, none⟩ = some v :=
  ⟨by simp [World.cell?, h], by simp [World.cell?, h], by simp [World.cell?, h], by simp [World.cell?, h], by simp [World.cell?, h]⟩
end Go.Proofs.YtehfcfpbjenmjaaDoor
