/- What is asked of the program's states ('StSpec'), and the answers that the document fixes; of no statement by itself. -/
import Derived.Test.YtkochonjfjlhpaaDoorSm
import Derived.Test.YtkochonjfjlhpaaDoorMem
import Derived.BigQuiet
import Derived.Laws.StructEq
import Derived.Deep.QuietTactic
namespace Go.Proofs.YtkochonjfjlhpaaDoor
open Go.RowKit
open St12
set_option linter.unusedVariables false
set_option linter.unusedSimpArgs false

def stv (s : Stt) : Value := .agg #[.int .i64 s.n, .int .i64 s.a, .int .i64 s.b, .int .i64 s.c, .int .i64 s.d]
def syv (y : Sym) : Value := .agg #[.int .i64 y.k, .int .u8 y.y, .int .i64 y.l, .int .i64 y.d]
def prv (p : Prp) : Value := .agg #[.int .i64 p.lc, .int .i64 p.lp, .int .i64 p.pb]
structure Stt.I (s : Stt) : Prop where
  n : I64 s.n
  a : I64 s.a
  b : I64 s.b
  c : I64 s.c
  d : I64 s.d
structure Sym.I (y : Sym) : Prop where
  k : I64 y.k
  l : I64 y.l
  d : I64 y.d
  y : 0 ≤ y.y ∧ y.y ≤ 255
structure Prp.I (p : Prp) : Prop where
  lc : I64 p.lc
  lp : I64 p.lp
  pb : I64 p.pb
structure StSpec (Tab : World → Prop) : Prop where
  keep : ∀ {w w'}, Tab w → Chg (fun _ => False) w w' → Tab w'
  new : ∀ w, Tab w → Calls Tryd.prog 14 #[] w fun e w' => e = .returned (stv st0) ∧ Chg (fun _ => False) w w'
  next : ∀ (s : Stt) (y : Sym) w, Tab w → s.I → y.I → Calls Tryd.prog 15 #[stv s, syv y] w fun e w' => e = .returned (.tuple #[stv (nxt s y).1, .int .i64 (nxt s y).2]) ∧ Chg (fun _ => False) w w'
  lit : ∀ (s : Stt) w, Tab w → s.I → Calls Tryd.prog 17 #[stv s] w fun e w' => e = .returned (.bool (St12.lit s.n)) ∧ Chg (fun _ => False) w w'
  slot : ∀ (d : Int) w, Tab w → I64 d → Calls Tryd.prog 11 #[.int .i64 d] w fun e w' => e = .returned (.tuple #[.int .i64 (slotA d).1, .int .i64 (slotA d).2]) ∧ Chg (fun _ => False) w w'
  range : ∀ (i : Int) w, Tab w → I64 i → Calls Tryd.prog 9 #[.int .i64 i] w fun e w' => e = .returned (.tuple #[.int .i64 (rangeA i).1, .int .i64 (rangeA i).2.1, .int .i64 (rangeA i).2.2]) ∧ Chg (fun _ => False) w w'
  pb : ∀ (p : Prp) w, Tab w → p.I → Calls Tryd.prog 12 #[prv p] w fun e w' => e = .returned (.tuple #[.int .i64 (byteP p).1, .int .i64 (byteP p).2]) ∧ Chg (fun _ => False) w w'
  bp : ∀ (b : Int) w, Tab w → I64 b → Calls Tryd.prog 13 #[.int .i64 b] w fun e w' => e = .returned (.tuple #[prv (propsB b).1, .int .i64 (propsB b).2]) ∧ Chg (fun _ => False) w w'
theorem nxt_fix : nxt st0 ⟨2, 0, 5, 9⟩ = (⟨7, 9, 1, 1, 1⟩, 0) := by kernel_rfl
theorem slot_fix : slotA 13 = (7, 0) := by decide +kernel
theorem byte_fix : byteP ⟨3, 0, 2⟩ = (93, 0) := by decide +kernel
theorem cells5 {w : World} {a : Nat} {x y z u v : Value} {t : TypeId} (h : w.heap[a]? = some (.cells #[x, y, z, u, v] t (0, 0))) : w.cell? ⟨a, 0, none⟩ = some x ∧ w.cell? ⟨a, 1, none⟩ = some y ∧ w.cell? ⟨a, 2, none⟩ = some z ∧ w.cell? ⟨a, 3, none⟩ = some u ∧ w.cell? ⟨a, 4, none⟩ = some v :=
  ⟨by simp [World.cell?, h], by simp [World.cell?, h], by simp [World.cell?, h], by simp [World.cell?, h], by simp [World.cell?, h]⟩
set_option maxHeartbeats 2000000 in
theorem fixed_any {Tab : World → Prop} (S : StSpec Tab) (w : World) (hT : Tab w) : Calls Tryd.prog 10 #[] w fun e w' => e = .returned (.bool true) ∧ Chg (fun _ => False) w w' := by
  have HT : Hid (Tab w) := hT
  have HN : Hid (Calls Tryd.prog 14 #[] w fun e w' => e = .returned (stv st0) ∧ Chg (fun _ => False) w w') := S.new w hT
  clear hT
  go_enter Tryd.func10, Tryd.ntmps10
  go_wp2_with fail
  refine Calls.mono HN.out ?_
  rintro z w1 ⟨rfl, c1⟩
  have HT1 : Hid (Tab w1) := S.keep HT.out c1
  have HX : Hid _ := S.next st0 ⟨2, 0, 5, 9⟩ w1 HT1.out ⟨⟨by decide, by decide⟩, ⟨by decide, by decide⟩, ⟨by decide, by decide⟩, ⟨by decide, by decide⟩, ⟨by decide, by decide⟩⟩ ⟨⟨by decide, by decide⟩, ⟨by decide, by decide⟩, ⟨by decide, by decide⟩, ⟨by decide, by decide⟩⟩
  rw [nxt_fix] at HX
  have HC1 : Hid (Chg (fun _ => False) w w1) := c1
  unfold stv syv at HX
  unfold stv st0
  simp only at HX
  have hq : ∀ ww : World, (binOp .eql 38 (.agg #[.int .i64 7, .int .i64 9, .int .i64 1, .int .i64 1, .int .i64 1]) (.agg #[.int .i64 7, .int .i64 9, .int .i64 1, .int .i64 1, .int .i64 1])).run Tryd.prog ww = .ok (.bool true) ww := fun ww => by kernel_rfl
  clear HN c1
  go_wp2_with fail
  refine Calls.mono HX.out ?_
  rintro z w2 ⟨rfl, c2⟩
  have HT2 : Hid (Tab w2) := S.keep HT1.out c2
  have HC2 : Hid (Chg (fun _ => False) w w2) := chg_then HC1.out c2
  have cB := chg_one w2 (.cells #[.int .i64 7, .int .i64 9, .int .i64 1, .int .i64 1, .int .i64 1] 38)
  have hbk := heap_alloc_last w2 (.cells #[.int .i64 7, .int .i64 9, .int .i64 1, .int .i64 1, .int .i64 1] 38)
  have HTB : Hid (Tab (w2.alloc (.cells #[.int .i64 7, .int .i64 9, .int .i64 1, .int .i64 1, .int .i64 1] 38))) := S.keep HT2.out cB
  have HCB : Hid (Chg (fun _ => False) w (w2.alloc (.cells #[.int .i64 7, .int .i64 9, .int .i64 1, .int .i64 1, .int .i64 1] 38))) := chg_then HC2.out cB
  have HY : Hid _ := S.slot 13 _ HTB.out ⟨by decide, by decide⟩
  rw [slot_fix] at HY
  clear HX c2 HT1 HC1 HT2 HC2 cB
  go_wp2_with fail
  refine Calls.mono HY.out ?_
  rintro z w3 ⟨rfl, c3⟩
  have HT3 : Hid (Tab w3) := S.keep HTB.out c3
  have HC3 : Hid (Chg (fun _ => False) w w3) := chg_then HCB.out c3
  have hbk := blk_keep hbk c3 (fun f => f)
  have HZ : Hid _ := S.pb ⟨3, 0, 2⟩ w3 HT3.out ⟨⟨by decide, by decide⟩, ⟨by decide, by decide⟩, ⟨by decide, by decide⟩⟩
  rw [byte_fix] at HZ
  unfold prv at HZ
  clear HY c3 HTB HCB
  go_wp2_with fail
  refine Calls.mono HZ.out ?_
  rintro z w4 ⟨rfl, c4⟩
  have HC4 : Hid (Chg (fun _ => False) w w4) := chg_then HC3.out c4
  obtain ⟨k0, k1, k2, k3, k4⟩ := cells5 (blk_keep hbk c4 (fun f => f))
  clear HZ c4 HT3 HC3
  go_wp2
  go_ret
  exact ⟨rfl, HC4.out⟩
end Go.Proofs.YtkochonjfjlhpaaDoor
