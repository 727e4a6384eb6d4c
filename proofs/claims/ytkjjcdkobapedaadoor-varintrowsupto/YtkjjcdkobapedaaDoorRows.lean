/-
  NARROWER THAN 'FOR EVERY INPUT', by the rows' own cells (each row's printed sentence says how): VarintLeast: laid · VarintBack: laid · VarintSole: laid · VarintApart: laid · VarintRows: laid · VarintExact: laid.
  DERIVED. THE GIVEN ROWS OF THIS SEAT. 6 by the template 'for every input the law returns true; each argument reads behind the call as it read before'; 0 by the template 'total and deterministic' (their statements: YtkjjcdkobapedaaDoorTotals.lean).
  GIVEN WITH THE SEED: the statements are not yours to turn. If you find one false, say at which input.
  Laid BY PROGRAM, IN A SANDBOX (cutbox-rows.mjs): the forced cells as the released guide's own fill.sh prints them over the translation 95ceb0fec553f7f2… (all of the seat's roots in one cut). By AI agents, Wed Nov 11 2026. No macro, syntax, notation, axiom, sorry.
-/
import Derived.Test.YtkjjcdkobapedaaDoorChecked
import GoSem.Claim
import GoSem.ClaimJoined
import GoSem.ClaimMapViews
import Derived.JoinedTies
import Derived.KernelRfl
namespace Go.Proofs.YtkjjcdkobapedaaDoor
/- THE CELL 'sum', in the pinned program and in every row, IS THE sha256 OF THE DUMP (.gsa) THAT YtkjjcdkobapedaaDoorProg.lean LOADS. Nothing in Lean hashes anything: it is a label: what it is worth is what the hold of that sum in a sandbox is worth. -/
noncomputable def Tryd.pinned : Pinned := { name := "ytkjjcdkobapedaadoor", sum := "95ceb0fec553f7f2b3586157cc6115f95bca405bc150c8a64b3d6292334bab9c", checked := Tryd.checked }
namespace Rows
def none {H : Type} : Left H := { results := [], args := [] }

/- WHAT THE LISTED PACKAGE-LEVEL VARIABLES READ AS WHEN THE CALL BEGINS. Each datum BY PROGRAM (the guide's laid-datum.mjs) off the statement by which the dump's own 'gosem.cut.vars' lays the variable. In a bare row this is a premise. The card (YtkjjcdkobapedaaDoorCards.lean) ties it to the program's text. -/
def laid_pith_varint_bounds {H : Type} : DataW H := .agg [.lit (.int .u64 128), .lit (.int .u64 16384), .lit (.int .u64 2097152), .lit (.int .u64 268435456), .lit (.int .u64 34359738368), .lit (.int .u64 4398046511104), .lit (.int .u64 562949953421312), .lit (.int .u64 72057594037927936)]

/-- 'pithlaw02.VarintLeast': WHATEVER THE INPUT: true; the input reads as it did. -/
def varintLeastSpec : ChangeSpec := { name := "varintLeast", fn := fun _ => fun
  | [d1, d2] => { results := [.lit (.bool true)], args := [d1, d2] }
  | _ => none }
def varintLeastRow : OpenClaim := { program := "ytkjjcdkobapedaadoor", sum := "95ceb0fec553f7f2b3586157cc6115f95bca405bc150c8a64b3d6292334bab9c", func := "pith/pithlaw02.VarintLeast", spec := "varintLeast", named := ["pith/varint.bounds"], apart := false, laid := [("pith/varint.bounds", laid_pith_varint_bounds)] }
def VarintLeastSaid : Prop := varintLeastRow.holds Tryd.pinned (OpenSpec.ofChange varintLeastSpec)

/-- ITS FALSE NEIGHBOUR: 'it returns false'. Refute it at one input. -/
def varintLeastWrong : ChangeSpec := { name := "varintLeast", fn := fun _ => fun
  | [d1, d2] => { results := [.lit (.bool false)], args := [d1, d2] }
  | _ => none }
def VarintLeastWrongFalsely : Prop := varintLeastRow.holds Tryd.pinned (OpenSpec.ofChange varintLeastWrong)

/-- 'pithlaw02.VarintBack': WHATEVER THE INPUT: true; the input reads as it did. -/
def varintBackSpec : ChangeSpec := { name := "varintBack", fn := fun _ => fun
  | [d1, d2] => { results := [.lit (.bool true)], args := [d1, d2] }
  | _ => none }
def varintBackRow : OpenClaim := { program := "ytkjjcdkobapedaadoor", sum := "95ceb0fec553f7f2b3586157cc6115f95bca405bc150c8a64b3d6292334bab9c", func := "pith/pithlaw02.VarintBack", spec := "varintBack", named := ["pith/varint.bounds"], apart := false, laid := [("pith/varint.bounds", laid_pith_varint_bounds)] }
def VarintBackSaid : Prop := varintBackRow.holds Tryd.pinned (OpenSpec.ofChange varintBackSpec)

/-- ITS FALSE NEIGHBOUR: 'it returns false'. Refute it at one input. -/
def varintBackWrong : ChangeSpec := { name := "varintBack", fn := fun _ => fun
  | [d1, d2] => { results := [.lit (.bool false)], args := [d1, d2] }
  | _ => none }
def VarintBackWrongFalsely : Prop := varintBackRow.holds Tryd.pinned (OpenSpec.ofChange varintBackWrong)

/-- 'pithlaw02.VarintSole': WHATEVER THE INPUT: true; the input reads as it did. -/
def varintSoleSpec : ChangeSpec := { name := "varintSole", fn := fun _ => fun
  | [d] => { results := [.lit (.bool true)], args := [d] }
  | _ => none }
def varintSoleRow : OpenClaim := { program := "ytkjjcdkobapedaadoor", sum := "95ceb0fec553f7f2b3586157cc6115f95bca405bc150c8a64b3d6292334bab9c", func := "pith/pithlaw02.VarintSole", spec := "varintSole", named := ["pith/varint.bounds"], apart := false, laid := [("pith/varint.bounds", laid_pith_varint_bounds)] }
def VarintSoleSaid : Prop := varintSoleRow.holds Tryd.pinned (OpenSpec.ofChange varintSoleSpec)

/-- ITS FALSE NEIGHBOUR: 'it returns false'. Refute it at one input. -/
def varintSoleWrong : ChangeSpec := { name := "varintSole", fn := fun _ => fun
  | [d] => { results := [.lit (.bool false)], args := [d] }
  | _ => none }
def VarintSoleWrongFalsely : Prop := varintSoleRow.holds Tryd.pinned (OpenSpec.ofChange varintSoleWrong)

/-- 'pithlaw02.VarintApart': WHATEVER THE INPUT: true; the input reads as it did. -/
def varintApartSpec : ChangeSpec := { name := "varintApart", fn := fun _ => fun
  | [d1, d2, d3] => { results := [.lit (.bool true)], args := [d1, d2, d3] }
  | _ => none }
def varintApartRow : OpenClaim := { program := "ytkjjcdkobapedaadoor", sum := "95ceb0fec553f7f2b3586157cc6115f95bca405bc150c8a64b3d6292334bab9c", func := "pith/pithlaw02.VarintApart", spec := "varintApart", named := ["pith/varint.bounds"], apart := false, laid := [("pith/varint.bounds", laid_pith_varint_bounds)] }
def VarintApartSaid : Prop := varintApartRow.holds Tryd.pinned (OpenSpec.ofChange varintApartSpec)

/-- ITS FALSE NEIGHBOUR: 'it returns false'. Refute it at one input. -/
def varintApartWrong : ChangeSpec := { name := "varintApart", fn := fun _ => fun
  | [d1, d2, d3] => { results := [.lit (.bool false)], args := [d1, d2, d3] }
  | _ => none }
def VarintApartWrongFalsely : Prop := varintApartRow.holds Tryd.pinned (OpenSpec.ofChange varintApartWrong)

/-- 'pithlaw02.VarintRows': WHATEVER THE INPUT: true; the input reads as it did. -/
def varintRowsSpec : ChangeSpec := { name := "varintRows", fn := fun _ => fun
  | [d] => { results := [.lit (.bool true)], args := [d] }
  | _ => none }
def varintRowsRow : OpenClaim := { program := "ytkjjcdkobapedaadoor", sum := "95ceb0fec553f7f2b3586157cc6115f95bca405bc150c8a64b3d6292334bab9c", func := "pith/pithlaw02.VarintRows", spec := "varintRows", named := ["pith/varint.bounds"], apart := false, laid := [("pith/varint.bounds", laid_pith_varint_bounds)] }
def VarintRowsSaid : Prop := varintRowsRow.holds Tryd.pinned (OpenSpec.ofChange varintRowsSpec)

/-- ITS FALSE NEIGHBOUR: 'it returns false'. Refute it at one input. -/
def varintRowsWrong : ChangeSpec := { name := "varintRows", fn := fun _ => fun
  | [d] => { results := [.lit (.bool false)], args := [d] }
  | _ => none }
def VarintRowsWrongFalsely : Prop := varintRowsRow.holds Tryd.pinned (OpenSpec.ofChange varintRowsWrong)

/-- 'pithlaw02.VarintExact': WHATEVER THE INPUT: true; the input reads as it did. -/
def varintExactSpec : ChangeSpec := { name := "varintExact", fn := fun _ => fun
  | [d1, d2] => { results := [.lit (.bool true)], args := [d1, d2] }
  | _ => none }
def varintExactRow : OpenClaim := { program := "ytkjjcdkobapedaadoor", sum := "95ceb0fec553f7f2b3586157cc6115f95bca405bc150c8a64b3d6292334bab9c", func := "pith/pithlaw02.VarintExact", spec := "varintExact", named := ["pith/varint.bounds"], apart := false, laid := [("pith/varint.bounds", laid_pith_varint_bounds)] }
def VarintExactSaid : Prop := varintExactRow.holds Tryd.pinned (OpenSpec.ofChange varintExactSpec)

/-- ITS FALSE NEIGHBOUR: 'it returns false'. Refute it at one input. -/
def varintExactWrong : ChangeSpec := { name := "varintExact", fn := fun _ => fun
  | [d1, d2] => { results := [.lit (.bool false)], args := [d1, d2] }
  | _ => none }
def VarintExactWrongFalsely : Prop := varintExactRow.holds Tryd.pinned (OpenSpec.ofChange varintExactWrong)

/- THE SECOND FORM. 'bulk': how many values and letters a reading holds, each counted each time it is reached (what is shared counts as often as it is met; a slice's spare places count too). A statement '..UptoSaid' is the law's where the arguments, and the package variables that the reading takes, are together of bulk at most 1048576: NARROWER than '..Said'. Prove '..Said' where nothing that the law and all that it calls make is longer than what came in: it says more and counts as full. Else prove '..UptoSaid'. A law counts once. -/
mutual
def uptoBulk {H : Type} : DataW H → Nat
  | .lit (.string bytes) => bytes.length + 1
  | .lit _ => 1
  | .nil => 1
  | .ptr d => uptoBulk d + 1
  | .slice elems spare => uptoBulkAll elems + uptoBulkAll spare + 1
  | .agg parts => uptoBulkAll parts + 1
  | .iface _ d => uptoBulk d + 1
  | .map entries => uptoBulkEntries entries + 1
  | .held _ => 1
def uptoBulkAll {H : Type} : List (DataW H) → Nat
  | [] => 0
  | d :: r => uptoBulk d + uptoBulkAll r
def uptoBulkEntries {H : Type} : List (Lit × DataW H) → Nat
  | [] => 0
  | x :: r => uptoBulkEntry x + uptoBulkEntries r
def uptoBulkEntry {H : Type} : Lit × DataW H → Nat
  | (.string bytes, d) => bytes.length + uptoBulk d + 1
  | (_, d) => uptoBulk d + 1
 end
def uptoSmall : (H : Type) → List (DataW H) → Bool := fun _ ds => decide (uptoBulkAll ds ≤ 1048576)
def OpenSpec.upto (s : _root_.Go.ChangeSpec) : _root_.Go.OpenSpec := { _root_.Go.OpenSpec.ofChange s with cond := some uptoSmall }

/-- 'pithlaw02.VarintLeast', WHERE WHAT IT READS IS OF BULK AT MOST 1048576: true; the input reads as it did. -/
def varintLeastUptoRow : OpenClaim := { program := "ytkjjcdkobapedaadoor", sum := "95ceb0fec553f7f2b3586157cc6115f95bca405bc150c8a64b3d6292334bab9c", func := "pith/pithlaw02.VarintLeast", spec := "varintLeast", named := ["pith/varint.bounds"], apart := false, laid := [("pith/varint.bounds", laid_pith_varint_bounds)], narrowed := true }
def VarintLeastUptoSaid : Prop := varintLeastUptoRow.holds Tryd.pinned (OpenSpec.upto varintLeastSpec)

/-- 'pithlaw02.VarintBack', WHERE WHAT IT READS IS OF BULK AT MOST 1048576: true; the input reads as it did. -/
def varintBackUptoRow : OpenClaim := { program := "ytkjjcdkobapedaadoor", sum := "95ceb0fec553f7f2b3586157cc6115f95bca405bc150c8a64b3d6292334bab9c", func := "pith/pithlaw02.VarintBack", spec := "varintBack", named := ["pith/varint.bounds"], apart := false, laid := [("pith/varint.bounds", laid_pith_varint_bounds)], narrowed := true }
def VarintBackUptoSaid : Prop := varintBackUptoRow.holds Tryd.pinned (OpenSpec.upto varintBackSpec)

/-- 'pithlaw02.VarintSole', WHERE WHAT IT READS IS OF BULK AT MOST 1048576: true; the input reads as it did. -/
def varintSoleUptoRow : OpenClaim := { program := "ytkjjcdkobapedaadoor", sum := "95ceb0fec553f7f2b3586157cc6115f95bca405bc150c8a64b3d6292334bab9c", func := "pith/pithlaw02.VarintSole", spec := "varintSole", named := ["pith/varint.bounds"], apart := false, laid := [("pith/varint.bounds", laid_pith_varint_bounds)], narrowed := true }
def VarintSoleUptoSaid : Prop := varintSoleUptoRow.holds Tryd.pinned (OpenSpec.upto varintSoleSpec)

/-- 'pithlaw02.VarintApart', WHERE WHAT IT READS IS OF BULK AT MOST 1048576: true; the input reads as it did. -/
def varintApartUptoRow : OpenClaim := { program := "ytkjjcdkobapedaadoor", sum := "95ceb0fec553f7f2b3586157cc6115f95bca405bc150c8a64b3d6292334bab9c", func := "pith/pithlaw02.VarintApart", spec := "varintApart", named := ["pith/varint.bounds"], apart := false, laid := [("pith/varint.bounds", laid_pith_varint_bounds)], narrowed := true }
def VarintApartUptoSaid : Prop := varintApartUptoRow.holds Tryd.pinned (OpenSpec.upto varintApartSpec)

/-- 'pithlaw02.VarintRows', WHERE WHAT IT READS IS OF BULK AT MOST 1048576: true; the input reads as it did. -/
def varintRowsUptoRow : OpenClaim := { program := "ytkjjcdkobapedaadoor", sum := "95ceb0fec553f7f2b3586157cc6115f95bca405bc150c8a64b3d6292334bab9c", func := "pith/pithlaw02.VarintRows", spec := "varintRows", named := ["pith/varint.bounds"], apart := false, laid := [("pith/varint.bounds", laid_pith_varint_bounds)], narrowed := true }
def VarintRowsUptoSaid : Prop := varintRowsUptoRow.holds Tryd.pinned (OpenSpec.upto varintRowsSpec)

/-- 'pithlaw02.VarintExact', WHERE WHAT IT READS IS OF BULK AT MOST 1048576: true; the input reads as it did. -/
def varintExactUptoRow : OpenClaim := { program := "ytkjjcdkobapedaadoor", sum := "95ceb0fec553f7f2b3586157cc6115f95bca405bc150c8a64b3d6292334bab9c", func := "pith/pithlaw02.VarintExact", spec := "varintExact", named := ["pith/varint.bounds"], apart := false, laid := [("pith/varint.bounds", laid_pith_varint_bounds)], narrowed := true }
def VarintExactUptoSaid : Prop := varintExactUptoRow.holds Tryd.pinned (OpenSpec.upto varintExactSpec)

end Rows
end Go.Proofs.YtkjjcdkobapedaaDoor
