/-
  NARROWER THAN 'FOR EVERY INPUT', by the rows' own cells (each row's printed sentence says how): ChainExact: laid · ChainSole: laid.
  DERIVED. THE GIVEN ROWS OF THIS SEAT. 2 by the template 'for every input the law returns true; each argument reads behind the call as it read before'; 0 by the template 'total and deterministic' (their statements: YtmkiohnabbfkcaaDoorTotals.lean).
  GIVEN WITH THE SEED: the statements are not yours to turn. If you find one false, say at which input.
  Laid BY PROGRAM, IN A SANDBOX (cutbox-rows.mjs): the forced cells as the released guide's own fill.sh prints them over the translation 70f2c60b7c69ddfc… (all of the seat's roots in one cut). By AI agents, Wed Nov 11 2026. No macro, syntax, notation, axiom, sorry.
-/
import Derived.Test.YtmkiohnabbfkcaaDoorChecked
import GoSem.Claim
import GoSem.ClaimJoined
import GoSem.ClaimMapViews
import Derived.JoinedTies
import Derived.KernelRfl
namespace Go.Proofs.YtmkiohnabbfkcaaDoor
/- THE CELL 'sum', in the pinned program and in every row, IS THE sha256 OF THE DUMP (.gsa) THAT YtmkiohnabbfkcaaDoorProg.lean LOADS. Nothing in Lean hashes anything: it is a label: what it is worth is what the hold of that sum in a sandbox is worth. -/
noncomputable def Tryd.pinned : Pinned := { name := "ytmkiohnabbfkcaadoor", sum := "70f2c60b7c69ddfc2b2f521dab6a2d96c556dc53292ce625b12cc30702a38d36", checked := Tryd.checked }
namespace Rows
def none {H : Type} : Left H := { results := [], args := [] }

/- WHAT THE LISTED PACKAGE-LEVEL VARIABLES READ AS WHEN THE CALL BEGINS. Each datum BY PROGRAM (the guide's laid-datum.mjs) off the statement by which the dump's own 'gosem.cut.vars' lays the variable. In a bare row this is a premise. The card (YtmkiohnabbfkcaaDoorCards.lean) ties it to the program's text. -/
def laid_pith_sha_first {H : Type} : DataW H := .agg [.lit (.int .u32 1779033703), .lit (.int .u32 3144134277), .lit (.int .u32 1013904242), .lit (.int .u32 2773480762), .lit (.int .u32 1359893119), .lit (.int .u32 2600822924), .lit (.int .u32 528734635), .lit (.int .u32 1541459225)]
def laid_pith_varint_bounds {H : Type} : DataW H := .agg [.lit (.int .u64 128), .lit (.int .u64 16384), .lit (.int .u64 2097152), .lit (.int .u64 268435456), .lit (.int .u64 34359738368), .lit (.int .u64 4398046511104), .lit (.int .u64 562949953421312), .lit (.int .u64 72057594037927936)]

/-- 'pithlaw20.ChainExact': WHATEVER THE INPUT: true; the input reads as it did. -/
def chainExactSpec : ChangeSpec := { name := "chainExact", fn := fun _ => fun
  | [d1, d2, d3] => { results := [.lit (.bool true)], args := [d1, d2, d3] }
  | _ => none }
def chainExactRow : OpenClaim := { program := "ytmkiohnabbfkcaadoor", sum := "70f2c60b7c69ddfc2b2f521dab6a2d96c556dc53292ce625b12cc30702a38d36", func := "pith/pithlaw20.ChainExact", spec := "chainExact", unfollowed := true, recurses := true, named := ["pith/varint.bounds", "pith/sha.first"], apart := false, laid := [("pith/sha.first", laid_pith_sha_first), ("pith/varint.bounds", laid_pith_varint_bounds)] }
def ChainExactSaid : Prop := chainExactRow.holds Tryd.pinned (OpenSpec.ofChange chainExactSpec)

/-- ITS FALSE NEIGHBOUR: 'it returns false'. Refute it at one input. -/
def chainExactWrong : ChangeSpec := { name := "chainExact", fn := fun _ => fun
  | [d1, d2, d3] => { results := [.lit (.bool false)], args := [d1, d2, d3] }
  | _ => none }
def ChainExactWrongFalsely : Prop := chainExactRow.holds Tryd.pinned (OpenSpec.ofChange chainExactWrong)

/-- 'pithlaw20.ChainSole': WHATEVER THE INPUT: true; the input reads as it did. -/
def chainSoleSpec : ChangeSpec := { name := "chainSole", fn := fun _ => fun
  | [d1, d2] => { results := [.lit (.bool true)], args := [d1, d2] }
  | _ => none }
def chainSoleRow : OpenClaim := { program := "ytmkiohnabbfkcaadoor", sum := "70f2c60b7c69ddfc2b2f521dab6a2d96c556dc53292ce625b12cc30702a38d36", func := "pith/pithlaw20.ChainSole", spec := "chainSole", unfollowed := true, recurses := true, named := ["pith/varint.bounds", "pith/sha.first"], apart := false, laid := [("pith/sha.first", laid_pith_sha_first), ("pith/varint.bounds", laid_pith_varint_bounds)] }
def ChainSoleSaid : Prop := chainSoleRow.holds Tryd.pinned (OpenSpec.ofChange chainSoleSpec)

/-- ITS FALSE NEIGHBOUR: 'it returns false'. Refute it at one input. -/
def chainSoleWrong : ChangeSpec := { name := "chainSole", fn := fun _ => fun
  | [d1, d2] => { results := [.lit (.bool false)], args := [d1, d2] }
  | _ => none }
def ChainSoleWrongFalsely : Prop := chainSoleRow.holds Tryd.pinned (OpenSpec.ofChange chainSoleWrong)

/- THE SECOND FORM. 'bulk': how many values and letters a reading holds, each counted each time it is reached (what is shared counts as often as it is met; a slice's spare places count too). A statement '..UptoSaid' is the law's where the arguments, and the package variables that the reading takes, are together of bulk at most 1048576: NARROWER than '..Said'. Prove '..Said' where nothing that the law and all that it calls make is longer than what came in: it says more and counts as full. Else prove '..UptoSaid'. A law counts once. -/
mutual
def uptoBulk {H : Type} : DataW H → Nat
  | .lit (.string bytes) => bytes.length + 1
  | .lit _ => 1
  | .nil => 1
  | .ptr d => uptoBulk d + 1
  | .slice elems spare => uptoBulkAll elems + uptoBulkAll spare + 1
  | .agg parts => uptoBulkAll parts + 1
  | .iface _ d => uptoBulk d + 1
  | .map entries => uptoBulkEntries entries + 1
  | .held _ => 1
def uptoBulkAll {H : Type} : List (DataW H) → Nat
  | [] => 0
  | d :: r => uptoBulk d + uptoBulkAll r
def uptoBulkEntries {H : Type} : List (Lit × DataW H) → Nat
  | [] => 0
  | x :: r => uptoBulkEntry x + uptoBulkEntries r
def uptoBulkEntry {H : Type} : Lit × DataW H → Nat
  | (.string bytes, d) => bytes.length + uptoBulk d + 1
  | (_, d) => uptoBulk d + 1
 end
def uptoSmall : (H : Type) → List (DataW H) → Bool := fun _ ds => decide (uptoBulkAll ds ≤ 1048576)
def OpenSpec.upto (s : _root_.Go.ChangeSpec) : _root_.Go.OpenSpec := { _root_.Go.OpenSpec.ofChange s with cond := some uptoSmall }

/-- 'pithlaw20.ChainExact', WHERE WHAT IT READS IS OF BULK AT MOST 1048576: true; the input reads as it did. -/
def chainExactUptoRow : OpenClaim := { program := "ytmkiohnabbfkcaadoor", sum := "70f2c60b7c69ddfc2b2f521dab6a2d96c556dc53292ce625b12cc30702a38d36", func := "pith/pithlaw20.ChainExact", spec := "chainExact", unfollowed := true, recurses := true, named := ["pith/varint.bounds", "pith/sha.first"], apart := false, laid := [("pith/sha.first", laid_pith_sha_first), ("pith/varint.bounds", laid_pith_varint_bounds)], narrowed := true }
def ChainExactUptoSaid : Prop := chainExactUptoRow.holds Tryd.pinned (OpenSpec.upto chainExactSpec)

/-- 'pithlaw20.ChainSole', WHERE WHAT IT READS IS OF BULK AT MOST 1048576: true; the input reads as it did. -/
def chainSoleUptoRow : OpenClaim := { program := "ytmkiohnabbfkcaadoor", sum := "70f2c60b7c69ddfc2b2f521dab6a2d96c556dc53292ce625b12cc30702a38d36", func := "pith/pithlaw20.ChainSole", spec := "chainSole", unfollowed := true, recurses := true, named := ["pith/varint.bounds", "pith/sha.first"], apart := false, laid := [("pith/sha.first", laid_pith_sha_first), ("pith/varint.bounds", laid_pith_varint_bounds)], narrowed := true }
def ChainSoleUptoSaid : Prop := chainSoleUptoRow.holds Tryd.pinned (OpenSpec.upto chainSoleSpec)

end Rows
end Go.Proofs.YtmkiohnabbfkcaaDoor
