/-
  NARROWER THAN 'FOR EVERY INPUT', by the rows' own cells (each row's printed sentence says how): IndexSole: laid · IndexTold: laid · IndexBack: laid · IndexFills: laid · IndexLists: laid · IndexExact: laid.
  DERIVED. THE GIVEN ROWS OF THIS SEAT. 6 by the template 'for every input the law returns true; each argument reads behind the call as it read before'; 0 by the template 'total and deterministic' (their statements: YtehfcfpbjenmjaaDoorTotals.lean).
  GIVEN WITH THE SEED: the statements are not yours to turn. If you find one false, say at which input.
  Laid BY PROGRAM, IN A SANDBOX (cutbox-rows.mjs): the forced cells as the released guide's own fill.sh prints them over the translation 0e303d2ef1ae4120… (all of the seat's roots in one cut). By AI agents, Wed Nov 11 2026. No macro, syntax, notation, axiom, sorry.
-/
import Derived.Test.YtehfcfpbjenmjaaDoorChecked
import GoSem.Claim
import GoSem.ClaimJoined
import GoSem.ClaimMapViews
import Derived.JoinedTies
import Derived.KernelRfl
namespace Go.Proofs.YtehfcfpbjenmjaaDoor
/- THE CELL 'sum', in the pinned program and in every row, IS THE sha256 OF THE DUMP (.gsa) THAT YtehfcfpbjenmjaaDoorProg.lean LOADS. Nothing in Lean hashes anything: it is a label: what it is worth is what the hold of that sum in a sandbox is worth. -/
noncomputable def Tryd.pinned : Pinned := { name := "ytehfcfpbjenmjaadoor", sum := "0e303d2ef1ae4120b898ac89992519050fc99fa4396175dab7607dc5a080541f", checked := Tryd.checked }
namespace Rows
def none {H : Type} : Left H := { results := [], args := [] }

/- WHAT THE LISTED PACKAGE-LEVEL VARIABLES READ AS WHEN THE CALL BEGINS. Each datum BY PROGRAM (the guide's laid-datum.mjs) off the statement by which the dump's own 'gosem.cut.vars' lays the variable. In a bare row this is a premise. The card (YtehfcfpbjenmjaaDoorCards.lean) ties it to the program's text. -/
def laid_pith_crc_half32 {H : Type} : DataW H := .agg [.lit (.int .u32 0), .lit (.int .u32 498536548), .lit (.int .u32 997073096), .lit (.int .u32 651767980), .lit (.int .u32 1994146192), .lit (.int .u32 1802195444), .lit (.int .u32 1303535960), .lit (.int .u32 1342533948), .lit (.int .u32 3988292384), .lit (.int .u32 4027552580), .lit (.int .u32 3604390888), .lit (.int .u32 3412177804), .lit (.int .u32 2607071920), .lit (.int .u32 2262029012), .lit (.int .u32 2685067896), .lit (.int .u32 3183342108)]
def laid_pith_varint_bounds {H : Type} : DataW H := .agg [.lit (.int .u64 128), .lit (.int .u64 16384), .lit (.int .u64 2097152), .lit (.int .u64 268435456), .lit (.int .u64 34359738368), .lit (.int .u64 4398046511104), .lit (.int .u64 562949953421312), .lit (.int .u64 72057594037927936)]

/-- 'pithlaw23.IndexSole': WHATEVER THE INPUT: true; the input reads as it did. -/
def indexSoleSpec : ChangeSpec := { name := "indexSole", fn := fun _ => fun
  | [d] => { results := [.lit (.bool true)], args := [d] }
  | _ => none }
def indexSoleRow : OpenClaim := { program := "ytehfcfpbjenmjaadoor", sum := "0e303d2ef1ae4120b898ac89992519050fc99fa4396175dab7607dc5a080541f", func := "pith/pithlaw23.IndexSole", spec := "indexSole", unfollowed := true, recurses := true, named := ["pith/crc.half32", "pith/varint.bounds"], apart := false, laid := [("pith/crc.half32", laid_pith_crc_half32), ("pith/varint.bounds", laid_pith_varint_bounds)] }
def IndexSoleSaid : Prop := indexSoleRow.holds Tryd.pinned (OpenSpec.ofChange indexSoleSpec)

/-- ITS FALSE NEIGHBOUR: 'it returns false'. Refute it at one input. -/
def indexSoleWrong : ChangeSpec := { name := "indexSole", fn := fun _ => fun
  | [d] => { results := [.lit (.bool false)], args := [d] }
  | _ => none }
def IndexSoleWrongFalsely : Prop := indexSoleRow.holds Tryd.pinned (OpenSpec.ofChange indexSoleWrong)

/-- 'pithlaw23.IndexTold': WHATEVER THE INPUT: true; the input reads as it did. -/
def indexToldSpec : ChangeSpec := { name := "indexTold", fn := fun _ => fun
  | [d1, d2] => { results := [.lit (.bool true)], args := [d1, d2] }
  | _ => none }
def indexToldRow : OpenClaim := { program := "ytehfcfpbjenmjaadoor", sum := "0e303d2ef1ae4120b898ac89992519050fc99fa4396175dab7607dc5a080541f", func := "pith/pithlaw23.IndexTold", spec := "indexTold", unfollowed := true, recurses := true, named := ["pith/varint.bounds", "pith/crc.half32"], apart := false, laid := [("pith/crc.half32", laid_pith_crc_half32), ("pith/varint.bounds", laid_pith_varint_bounds)] }
def IndexToldSaid : Prop := indexToldRow.holds Tryd.pinned (OpenSpec.ofChange indexToldSpec)

/-- ITS FALSE NEIGHBOUR: 'it returns false'. Refute it at one input. -/
def indexToldWrong : ChangeSpec := { name := "indexTold", fn := fun _ => fun
  | [d1, d2] => { results := [.lit (.bool false)], args := [d1, d2] }
  | _ => none }
def IndexToldWrongFalsely : Prop := indexToldRow.holds Tryd.pinned (OpenSpec.ofChange indexToldWrong)

/-- 'pithlaw23.IndexBack': WHATEVER THE INPUT: true; the input reads as it did. -/
def indexBackSpec : ChangeSpec := { name := "indexBack", fn := fun _ => fun
  | [d1, d2] => { results := [.lit (.bool true)], args := [d1, d2] }
  | _ => none }
def indexBackRow : OpenClaim := { program := "ytehfcfpbjenmjaadoor", sum := "0e303d2ef1ae4120b898ac89992519050fc99fa4396175dab7607dc5a080541f", func := "pith/pithlaw23.IndexBack", spec := "indexBack", unfollowed := true, recurses := true, named := ["pith/varint.bounds", "pith/crc.half32"], apart := false, laid := [("pith/crc.half32", laid_pith_crc_half32), ("pith/varint.bounds", laid_pith_varint_bounds)] }
def IndexBackSaid : Prop := indexBackRow.holds Tryd.pinned (OpenSpec.ofChange indexBackSpec)

/-- ITS FALSE NEIGHBOUR: 'it returns false'. Refute it at one input. -/
def indexBackWrong : ChangeSpec := { name := "indexBack", fn := fun _ => fun
  | [d1, d2] => { results := [.lit (.bool false)], args := [d1, d2] }
  | _ => none }
def IndexBackWrongFalsely : Prop := indexBackRow.holds Tryd.pinned (OpenSpec.ofChange indexBackWrong)

/-- 'pithlaw23.IndexFills': WHATEVER THE INPUT: true; the input reads as it did. -/
def indexFillsSpec : ChangeSpec := { name := "indexFills", fn := fun _ => fun
  | [d1, d2, d3] => { results := [.lit (.bool true)], args := [d1, d2, d3] }
  | _ => none }
def indexFillsRow : OpenClaim := { program := "ytehfcfpbjenmjaadoor", sum := "0e303d2ef1ae4120b898ac89992519050fc99fa4396175dab7607dc5a080541f", func := "pith/pithlaw23.IndexFills", spec := "indexFills", unfollowed := true, recurses := true, named := ["pith/varint.bounds", "pith/crc.half32"], apart := false, laid := [("pith/crc.half32", laid_pith_crc_half32), ("pith/varint.bounds", laid_pith_varint_bounds)] }
def IndexFillsSaid : Prop := indexFillsRow.holds Tryd.pinned (OpenSpec.ofChange indexFillsSpec)

/-- ITS FALSE NEIGHBOUR: 'it returns false'. Refute it at one input. -/
def indexFillsWrong : ChangeSpec := { name := "indexFills", fn := fun _ => fun
  | [d1, d2, d3] => { results := [.lit (.bool false)], args := [d1, d2, d3] }
  | _ => none }
def IndexFillsWrongFalsely : Prop := indexFillsRow.holds Tryd.pinned (OpenSpec.ofChange indexFillsWrong)

/-- 'pithlaw23.IndexLists': WHATEVER THE INPUT: true; the input reads as it did. -/
def indexListsSpec : ChangeSpec := { name := "indexLists", fn := fun _ => fun
  | [d1, d2] => { results := [.lit (.bool true)], args := [d1, d2] }
  | _ => none }
def indexListsRow : OpenClaim := { program := "ytehfcfpbjenmjaadoor", sum := "0e303d2ef1ae4120b898ac89992519050fc99fa4396175dab7607dc5a080541f", func := "pith/pithlaw23.IndexLists", spec := "indexLists", unfollowed := true, recurses := true, named := ["pith/varint.bounds", "pith/crc.half32"], apart := false, laid := [("pith/crc.half32", laid_pith_crc_half32), ("pith/varint.bounds", laid_pith_varint_bounds)] }
def IndexListsSaid : Prop := indexListsRow.holds Tryd.pinned (OpenSpec.ofChange indexListsSpec)

/-- ITS FALSE NEIGHBOUR: 'it returns false'. Refute it at one input. -/
def indexListsWrong : ChangeSpec := { name := "indexLists", fn := fun _ => fun
  | [d1, d2] => { results := [.lit (.bool false)], args := [d1, d2] }
  | _ => none }
def IndexListsWrongFalsely : Prop := indexListsRow.holds Tryd.pinned (OpenSpec.ofChange indexListsWrong)

/-- 'pithlaw23.IndexExact': WHATEVER THE INPUT: true; the input reads as it did. -/
def indexExactSpec : ChangeSpec := { name := "indexExact", fn := fun _ => fun
  | [d1, d2, d3] => { results := [.lit (.bool true)], args := [d1, d2, d3] }
  | _ => none }
def indexExactRow : OpenClaim := { program := "ytehfcfpbjenmjaadoor", sum := "0e303d2ef1ae4120b898ac89992519050fc99fa4396175dab7607dc5a080541f", func := "pith/pithlaw23.IndexExact", spec := "indexExact", unfollowed := true, recurses := true, named := ["pith/varint.bounds", "pith/crc.half32"], apart := false, laid := [("pith/crc.half32", laid_pith_crc_half32), ("pith/varint.bounds", laid_pith_varint_bounds)] }
def IndexExactSaid : Prop := indexExactRow.holds Tryd.pinned (OpenSpec.ofChange indexExactSpec)

/-- ITS FALSE NEIGHBOUR: 'it returns false'. Refute it at one input. -/
def indexExactWrong : ChangeSpec := { name := "indexExact", fn := fun _ => fun
  | [d1, d2, d3] => { results := [.lit (.bool false)], args := [d1, d2, d3] }
  | _ => none }
def IndexExactWrongFalsely : Prop := indexExactRow.holds Tryd.pinned (OpenSpec.ofChange indexExactWrong)

/- THE SECOND FORM. 'bulk': how many values and letters a reading holds, each counted each time it is reached (what is shared counts as often as it is met; a slice's spare places count too). A statement '..UptoSaid' is the law's where the arguments, and the package variables that the reading takes, are together of bulk at most 1048576: NARROWER than '..Said'. Prove '..Said' where nothing that the law and all that it calls make is longer than what came in: it says more and counts as full. Else prove '..UptoSaid'. A law counts once. -/
mutual
def uptoBulk {H : Type} : DataW H → Nat
  | .lit (.string bytes) => bytes.length + 1
  | .lit _ => 1
  | .nil => 1
  | .ptr d => uptoBulk d + 1
  | .slice elems spare => uptoBulkAll elems + uptoBulkAll spare + 1
  | .agg parts => uptoBulkAll parts + 1
  | .iface _ d => uptoBulk d + 1
  | .map entries => uptoBulkEntries entries + 1
  | .held _ => 1
def uptoBulkAll {H : Type} : List (DataW H) → Nat
  | [] => 0
  | d :: r => uptoBulk d + uptoBulkAll r
def uptoBulkEntries {H : Type} : List (Lit × DataW H) → Nat
  | [] => 0
  | x :: r => uptoBulkEntry x + uptoBulkEntries r
def uptoBulkEntry {H : Type} : Lit × DataW H → Nat
  | (.string bytes, d) => bytes.length + uptoBulk d + 1
  | (_, d) => uptoBulk d + 1
 end
def uptoSmall : (H : Type) → List (DataW H) → Bool := fun _ ds => decide (uptoBulkAll ds ≤ 1048576)
def OpenSpec.upto (s : _root_.Go.ChangeSpec) : _root_.Go.OpenSpec := { _root_.Go.OpenSpec.ofChange s with cond := some uptoSmall }

/-- 'pithlaw23.IndexSole', WHERE WHAT IT READS IS OF BULK AT MOST 1048576: true; the input reads as it did. -/
def indexSoleUptoRow : OpenClaim := { program := "ytehfcfpbjenmjaadoor", sum := "0e303d2ef1ae4120b898ac89992519050fc99fa4396175dab7607dc5a080541f", func := "pith/pithlaw23.IndexSole", spec := "indexSole", unfollowed := true, recurses := true, named := ["pith/crc.half32", "pith/varint.bounds"], apart := false, laid := [("pith/crc.half32", laid_pith_crc_half32), ("pith/varint.bounds", laid_pith_varint_bounds)], narrowed := true }
def IndexSoleUptoSaid : Prop := indexSoleUptoRow.holds Tryd.pinned (OpenSpec.upto indexSoleSpec)

/-- 'pithlaw23.IndexTold', WHERE WHAT IT READS IS OF BULK AT MOST 1048576: true; the input reads as it did. -/
def indexToldUptoRow : OpenClaim := { program := "ytehfcfpbjenmjaadoor", sum := "0e303d2ef1ae4120b898ac89992519050fc99fa4396175dab7607dc5a080541f", func := "pith/pithlaw23.IndexTold", spec := "indexTold", unfollowed := true, recurses := true, named := ["pith/varint.bounds", "pith/crc.half32"], apart := false, laid := [("pith/crc.half32", laid_pith_crc_half32), ("pith/varint.bounds", laid_pith_varint_bounds)], narrowed := true }
def IndexToldUptoSaid : Prop := indexToldUptoRow.holds Tryd.pinned (OpenSpec.upto indexToldSpec)

/-- 'pithlaw23.IndexBack', WHERE WHAT IT READS IS OF BULK AT MOST 1048576: true; the input reads as it did. -/
def indexBackUptoRow : OpenClaim := { program := "ytehfcfpbjenmjaadoor", sum := "0e303d2ef1ae4120b898ac89992519050fc99fa4396175dab7607dc5a080541f", func := "pith/pithlaw23.IndexBack", spec := "indexBack", unfollowed := true, recurses := true, named := ["pith/varint.bounds", "pith/crc.half32"], apart := false, laid := [("pith/crc.half32", laid_pith_crc_half32), ("pith/varint.bounds", laid_pith_varint_bounds)], narrowed := true }
def IndexBackUptoSaid : Prop := indexBackUptoRow.holds Tryd.pinned (OpenSpec.upto indexBackSpec)

/-- 'pithlaw23.IndexFills', WHERE WHAT IT READS IS OF BULK AT MOST 1048576: true; the input reads as it did. -/
def indexFillsUptoRow : OpenClaim := { program := "ytehfcfpbjenmjaadoor", sum := "0e303d2ef1ae4120b898ac89992519050fc99fa4396175dab7607dc5a080541f", func := "pith/pithlaw23.IndexFills", spec := "indexFills", unfollowed := true, recurses := true, named := ["pith/varint.bounds", "pith/crc.half32"], apart := false, laid := [("pith/crc.half32", laid_pith_crc_half32), ("pith/varint.bounds", laid_pith_varint_bounds)], narrowed := true }
def IndexFillsUptoSaid : Prop := indexFillsUptoRow.holds Tryd.pinned (OpenSpec.upto indexFillsSpec)

/-- 'pithlaw23.IndexLists', WHERE WHAT IT READS IS OF BULK AT MOST 1048576: true; the input reads as it did. -/
def indexListsUptoRow : OpenClaim := { program := "ytehfcfpbjenmjaadoor", sum := "0e303d2ef1ae4120b898ac89992519050fc99fa4396175dab7607dc5a080541f", func := "pith/pithlaw23.IndexLists", spec := "indexLists", unfollowed := true, recurses := true, named := ["pith/varint.bounds", "pith/crc.half32"], apart := false, laid := [("pith/crc.half32", laid_pith_crc_half32), ("pith/varint.bounds", laid_pith_varint_bounds)], narrowed := true }
def IndexListsUptoSaid : Prop := indexListsUptoRow.holds Tryd.pinned (OpenSpec.upto indexListsSpec)

/-- 'pithlaw23.IndexExact', WHERE WHAT IT READS IS OF BULK AT MOST 1048576: true; the input reads as it did. -/
def indexExactUptoRow : OpenClaim := { program := "ytehfcfpbjenmjaadoor", sum := "0e303d2ef1ae4120b898ac89992519050fc99fa4396175dab7607dc5a080541f", func := "pith/pithlaw23.IndexExact", spec := "indexExact", unfollowed := true, recurses := true, named := ["pith/varint.bounds", "pith/crc.half32"], apart := false, laid := [("pith/crc.half32", laid_pith_crc_half32), ("pith/varint.bounds", laid_pith_varint_bounds)], narrowed := true }
def IndexExactUptoSaid : Prop := indexExactUptoRow.holds Tryd.pinned (OpenSpec.upto indexExactSpec)

end Rows
end Go.Proofs.YtehfcfpbjenmjaaDoor
