/-
  NARROWER THAN 'FOR EVERY INPUT', by the rows' own cells (each row's printed sentence says how): ChunkBack: laid · ChunkSole: laid · ChunkDicts: laid · ChunkLists: laid · ChunkOrder: laid · ChunkExact: laid.
  DERIVED. THE GIVEN ROWS OF THIS SEAT. 6 by the template 'for every input the law returns true; each argument reads behind the call as it read before'; 0 by the template 'total and deterministic' (their statements: YtannepoclpmedaaDoorTotals.lean).
  GIVEN WITH THE SEED: the statements are not yours to turn. If you find one false, say at which input.
  Laid BY PROGRAM, IN A SANDBOX (cutbox-rows.mjs): the forced cells as the released guide's own fill.sh prints them over the translation c7687a60cab64f0c… (all of the seat's roots in one cut). By AI agents, Wed Nov 11 2026. No macro, syntax, notation, axiom, sorry.
-/
import Derived.Test.YtannepoclpmedaaDoorChecked
import GoSem.Claim
import GoSem.ClaimJoined
import GoSem.ClaimMapViews
import Derived.JoinedTies
import Derived.KernelRfl
namespace Go.Proofs.YtannepoclpmedaaDoor
/- THE CELL 'sum', in the pinned program and in every row, IS THE sha256 OF THE DUMP (.gsa) THAT YtannepoclpmedaaDoorProg.lean LOADS. Nothing in Lean hashes anything: it is a label: what it is worth is what the hold of that sum in a sandbox is worth. -/
noncomputable def Tryd.pinned : Pinned := { name := "ytannepoclpmedaadoor", sum := "c7687a60cab64f0cedb2c12325630f2926ab88f0196e362e9182c60af1a93ac0", checked := Tryd.checked }
namespace Rows
def none {H : Type} : Left H := { results := [], args := [] }

/- WHAT THE LISTED PACKAGE-LEVEL VARIABLES READ AS WHEN THE CALL BEGINS. Each datum BY PROGRAM (the guide's laid-datum.mjs) off the statement by which the dump's own 'gosem.cut.vars' lays the variable. In a bare row this is a premise. The card (YtannepoclpmedaaDoorCards.lean) ties it to the program's text. -/
def laid_pith_chunk_forms {H : Type} : DataW H := .agg [.lit (.int .i64 0), .lit (.int .i64 1), .lit (.int .i64 1), .lit (.int .i64 2), .lit (.int .i64 2), .lit (.int .i64 3), .lit (.int .i64 3)]
def laid_pith_chunk_lengths {H : Type} : DataW H := .agg [.lit (.int .i64 1), .lit (.int .i64 3), .lit (.int .i64 5), .lit (.int .i64 6)]
def laid_pith_chunk_follows {H : Type} : DataW H := .agg [.agg [.lit (.int .i64 3), .lit (.int .i64 1), .lit (.int .i64 4), .lit (.int .i64 4), .lit (.int .i64 4), .lit (.int .i64 4), .lit (.int .i64 2)], .agg [.lit (.int .i64 3), .lit (.int .i64 1), .lit (.int .i64 1), .lit (.int .i64 4), .lit (.int .i64 4), .lit (.int .i64 2), .lit (.int .i64 2)], .agg [.lit (.int .i64 3), .lit (.int .i64 1), .lit (.int .i64 2), .lit (.int .i64 2), .lit (.int .i64 2), .lit (.int .i64 2), .lit (.int .i64 2)], .agg [.lit (.int .i64 4), .lit (.int .i64 4), .lit (.int .i64 4), .lit (.int .i64 4), .lit (.int .i64 4), .lit (.int .i64 4), .lit (.int .i64 4)]]

/-- 'pithlaw17.ChunkBack': WHATEVER THE INPUT: true; the input reads as it did. -/
def chunkBackSpec : ChangeSpec := { name := "chunkBack", fn := fun _ => fun
  | [d1, d2] => { results := [.lit (.bool true)], args := [d1, d2] }
  | _ => none }
def chunkBackRow : OpenClaim := { program := "ytannepoclpmedaadoor", sum := "c7687a60cab64f0cedb2c12325630f2926ab88f0196e362e9182c60af1a93ac0", func := "pith/pithlaw17.ChunkBack", spec := "chunkBack", named := ["pith/chunk.forms", "pith/chunk.lengths"], apart := false, laid := [("pith/chunk.forms", laid_pith_chunk_forms), ("pith/chunk.lengths", laid_pith_chunk_lengths)] }
def ChunkBackSaid : Prop := chunkBackRow.holds Tryd.pinned (OpenSpec.ofChange chunkBackSpec)

/-- ITS FALSE NEIGHBOUR: 'it returns false'. Refute it at one input. -/
def chunkBackWrong : ChangeSpec := { name := "chunkBack", fn := fun _ => fun
  | [d1, d2] => { results := [.lit (.bool false)], args := [d1, d2] }
  | _ => none }
def ChunkBackWrongFalsely : Prop := chunkBackRow.holds Tryd.pinned (OpenSpec.ofChange chunkBackWrong)

/-- 'pithlaw17.ChunkSole': WHATEVER THE INPUT: true; the input reads as it did. -/
def chunkSoleSpec : ChangeSpec := { name := "chunkSole", fn := fun _ => fun
  | [d] => { results := [.lit (.bool true)], args := [d] }
  | _ => none }
def chunkSoleRow : OpenClaim := { program := "ytannepoclpmedaadoor", sum := "c7687a60cab64f0cedb2c12325630f2926ab88f0196e362e9182c60af1a93ac0", func := "pith/pithlaw17.ChunkSole", spec := "chunkSole", named := ["pith/chunk.forms", "pith/chunk.lengths"], apart := false, laid := [("pith/chunk.forms", laid_pith_chunk_forms), ("pith/chunk.lengths", laid_pith_chunk_lengths)] }
def ChunkSoleSaid : Prop := chunkSoleRow.holds Tryd.pinned (OpenSpec.ofChange chunkSoleSpec)

/-- ITS FALSE NEIGHBOUR: 'it returns false'. Refute it at one input. -/
def chunkSoleWrong : ChangeSpec := { name := "chunkSole", fn := fun _ => fun
  | [d] => { results := [.lit (.bool false)], args := [d] }
  | _ => none }
def ChunkSoleWrongFalsely : Prop := chunkSoleRow.holds Tryd.pinned (OpenSpec.ofChange chunkSoleWrong)

/-- 'pithlaw17.ChunkDicts': WHATEVER THE INPUT: true; the input reads as it did. -/
def chunkDictsSpec : ChangeSpec := { name := "chunkDicts", fn := fun _ => fun
  | [d] => { results := [.lit (.bool true)], args := [d] }
  | _ => none }
def chunkDictsRow : OpenClaim := { program := "ytannepoclpmedaadoor", sum := "c7687a60cab64f0cedb2c12325630f2926ab88f0196e362e9182c60af1a93ac0", func := "pith/pithlaw17.ChunkDicts", spec := "chunkDicts", named := ["pith/chunk.forms", "pith/chunk.lengths"], apart := false, laid := [("pith/chunk.forms", laid_pith_chunk_forms), ("pith/chunk.lengths", laid_pith_chunk_lengths)] }
def ChunkDictsSaid : Prop := chunkDictsRow.holds Tryd.pinned (OpenSpec.ofChange chunkDictsSpec)

/-- ITS FALSE NEIGHBOUR: 'it returns false'. Refute it at one input. -/
def chunkDictsWrong : ChangeSpec := { name := "chunkDicts", fn := fun _ => fun
  | [d] => { results := [.lit (.bool false)], args := [d] }
  | _ => none }
def ChunkDictsWrongFalsely : Prop := chunkDictsRow.holds Tryd.pinned (OpenSpec.ofChange chunkDictsWrong)

/-- 'pithlaw17.ChunkLists': WHATEVER THE INPUT: true; the input reads as it did. -/
def chunkListsSpec : ChangeSpec := { name := "chunkLists", fn := fun _ => fun
  | [d] => { results := [.lit (.bool true)], args := [d] }
  | _ => none }
def chunkListsRow : OpenClaim := { program := "ytannepoclpmedaadoor", sum := "c7687a60cab64f0cedb2c12325630f2926ab88f0196e362e9182c60af1a93ac0", func := "pith/pithlaw17.ChunkLists", spec := "chunkLists", named := ["pith/chunk.forms", "pith/chunk.lengths"], apart := false, laid := [("pith/chunk.forms", laid_pith_chunk_forms), ("pith/chunk.lengths", laid_pith_chunk_lengths)] }
def ChunkListsSaid : Prop := chunkListsRow.holds Tryd.pinned (OpenSpec.ofChange chunkListsSpec)

/-- ITS FALSE NEIGHBOUR: 'it returns false'. Refute it at one input. -/
def chunkListsWrong : ChangeSpec := { name := "chunkLists", fn := fun _ => fun
  | [d] => { results := [.lit (.bool false)], args := [d] }
  | _ => none }
def ChunkListsWrongFalsely : Prop := chunkListsRow.holds Tryd.pinned (OpenSpec.ofChange chunkListsWrong)

/-- 'pithlaw17.ChunkOrder': WHATEVER THE INPUT: true; the input reads as it did. -/
def chunkOrderSpec : ChangeSpec := { name := "chunkOrder", fn := fun _ => fun
  | [d1, d2] => { results := [.lit (.bool true)], args := [d1, d2] }
  | _ => none }
def chunkOrderRow : OpenClaim := { program := "ytannepoclpmedaadoor", sum := "c7687a60cab64f0cedb2c12325630f2926ab88f0196e362e9182c60af1a93ac0", func := "pith/pithlaw17.ChunkOrder", spec := "chunkOrder", named := ["pith/chunk.follows", "pith/chunk.forms", "pith/chunk.lengths"], apart := false, laid := [("pith/chunk.forms", laid_pith_chunk_forms), ("pith/chunk.lengths", laid_pith_chunk_lengths), ("pith/chunk.follows", laid_pith_chunk_follows)] }
def ChunkOrderSaid : Prop := chunkOrderRow.holds Tryd.pinned (OpenSpec.ofChange chunkOrderSpec)

/-- ITS FALSE NEIGHBOUR: 'it returns false'. Refute it at one input. -/
def chunkOrderWrong : ChangeSpec := { name := "chunkOrder", fn := fun _ => fun
  | [d1, d2] => { results := [.lit (.bool false)], args := [d1, d2] }
  | _ => none }
def ChunkOrderWrongFalsely : Prop := chunkOrderRow.holds Tryd.pinned (OpenSpec.ofChange chunkOrderWrong)

/-- 'pithlaw17.ChunkExact': WHATEVER THE INPUT: true; the input reads as it did. -/
def chunkExactSpec : ChangeSpec := { name := "chunkExact", fn := fun _ => fun
  | [d1, d2, d3] => { results := [.lit (.bool true)], args := [d1, d2, d3] }
  | _ => none }
def chunkExactRow : OpenClaim := { program := "ytannepoclpmedaadoor", sum := "c7687a60cab64f0cedb2c12325630f2926ab88f0196e362e9182c60af1a93ac0", func := "pith/pithlaw17.ChunkExact", spec := "chunkExact", named := ["pith/chunk.forms", "pith/chunk.lengths"], apart := false, laid := [("pith/chunk.forms", laid_pith_chunk_forms), ("pith/chunk.lengths", laid_pith_chunk_lengths)] }
def ChunkExactSaid : Prop := chunkExactRow.holds Tryd.pinned (OpenSpec.ofChange chunkExactSpec)

/-- ITS FALSE NEIGHBOUR: 'it returns false'. Refute it at one input. -/
def chunkExactWrong : ChangeSpec := { name := "chunkExact", fn := fun _ => fun
  | [d1, d2, d3] => { results := [.lit (.bool false)], args := [d1, d2, d3] }
  | _ => none }
def ChunkExactWrongFalsely : Prop := chunkExactRow.holds Tryd.pinned (OpenSpec.ofChange chunkExactWrong)

/- THE SECOND FORM. 'bulk': how many values and letters a reading holds, each counted each time it is reached (what is shared counts as often as it is met; a slice's spare places count too). A statement '..UptoSaid' is the law's where the arguments, and the package variables that the reading takes, are together of bulk at most 1048576: NARROWER than '..Said'. Prove '..Said' where nothing that the law and all that it calls make is longer than what came in: it says more and counts as full. Else prove '..UptoSaid'. A law counts once. -/
mutual
def uptoBulk {H : Type} : DataW H → Nat
  | .lit (.string bytes) => bytes.length + 1
  | .lit _ => 1
  | .nil => 1
  | .ptr d => uptoBulk d + 1
  | .slice elems spare => uptoBulkAll elems + uptoBulkAll spare + 1
  | .agg parts => uptoBulkAll parts + 1
  | .iface _ d => uptoBulk d + 1
  | .map entries => uptoBulkEntries entries + 1
  | .held _ => 1
def uptoBulkAll {H : Type} : List (DataW H) → Nat
  | [] => 0
  | d :: r => uptoBulk d + uptoBulkAll r
def uptoBulkEntries {H : Type} : List (Lit × DataW H) → Nat
  | [] => 0
  | x :: r => uptoBulkEntry x + uptoBulkEntries r
def uptoBulkEntry {H : Type} : Lit × DataW H → Nat
  | (.string bytes, d) => bytes.length + uptoBulk d + 1
  | (_, d) => uptoBulk d + 1
 end
def uptoSmall : (H : Type) → List (DataW H) → Bool := fun _ ds => decide (uptoBulkAll ds ≤ 1048576)
def OpenSpec.upto (s : _root_.Go.ChangeSpec) : _root_.Go.OpenSpec := { _root_.Go.OpenSpec.ofChange s with cond := some uptoSmall }

/-- 'pithlaw17.ChunkBack', WHERE WHAT IT READS IS OF BULK AT MOST 1048576: true; the input reads as it did. -/
def chunkBackUptoRow : OpenClaim := { program := "ytannepoclpmedaadoor", sum := "c7687a60cab64f0cedb2c12325630f2926ab88f0196e362e9182c60af1a93ac0", func := "pith/pithlaw17.ChunkBack", spec := "chunkBack", named := ["pith/chunk.forms", "pith/chunk.lengths"], apart := false, laid := [("pith/chunk.forms", laid_pith_chunk_forms), ("pith/chunk.lengths", laid_pith_chunk_lengths)], narrowed := true }
def ChunkBackUptoSaid : Prop := chunkBackUptoRow.holds Tryd.pinned (OpenSpec.upto chunkBackSpec)

/-- 'pithlaw17.ChunkSole', WHERE WHAT IT READS IS OF BULK AT MOST 1048576: true; the input reads as it did. -/
def chunkSoleUptoRow : OpenClaim := { program := "ytannepoclpmedaadoor", sum := "c7687a60cab64f0cedb2c12325630f2926ab88f0196e362e9182c60af1a93ac0", func := "pith/pithlaw17.ChunkSole", spec := "chunkSole", named := ["pith/chunk.forms", "pith/chunk.lengths"], apart := false, laid := [("pith/chunk.forms", laid_pith_chunk_forms), ("pith/chunk.lengths", laid_pith_chunk_lengths)], narrowed := true }
def ChunkSoleUptoSaid : Prop := chunkSoleUptoRow.holds Tryd.pinned (OpenSpec.upto chunkSoleSpec)

/-- 'pithlaw17.ChunkDicts', WHERE WHAT IT READS IS OF BULK AT MOST 1048576: true; the input reads as it did. -/
def chunkDictsUptoRow : OpenClaim := { program := "ytannepoclpmedaadoor", sum := "c7687a60cab64f0cedb2c12325630f2926ab88f0196e362e9182c60af1a93ac0", func := "pith/pithlaw17.ChunkDicts", spec := "chunkDicts", named := ["pith/chunk.forms", "pith/chunk.lengths"], apart := false, laid := [("pith/chunk.forms", laid_pith_chunk_forms), ("pith/chunk.lengths", laid_pith_chunk_lengths)], narrowed := true }
def ChunkDictsUptoSaid : Prop := chunkDictsUptoRow.holds Tryd.pinned (OpenSpec.upto chunkDictsSpec)

/-- 'pithlaw17.ChunkLists', WHERE WHAT IT READS IS OF BULK AT MOST 1048576: true; the input reads as it did. -/
def chunkListsUptoRow : OpenClaim := { program := "ytannepoclpmedaadoor", sum := "c7687a60cab64f0cedb2c12325630f2926ab88f0196e362e9182c60af1a93ac0", func := "pith/pithlaw17.ChunkLists", spec := "chunkLists", named := ["pith/chunk.forms", "pith/chunk.lengths"], apart := false, laid := [("pith/chunk.forms", laid_pith_chunk_forms), ("pith/chunk.lengths", laid_pith_chunk_lengths)], narrowed := true }
def ChunkListsUptoSaid : Prop := chunkListsUptoRow.holds Tryd.pinned (OpenSpec.upto chunkListsSpec)

/-- 'pithlaw17.ChunkOrder', WHERE WHAT IT READS IS OF BULK AT MOST 1048576: true; the input reads as it did. -/
def chunkOrderUptoRow : OpenClaim := { program := "ytannepoclpmedaadoor", sum := "c7687a60cab64f0cedb2c12325630f2926ab88f0196e362e9182c60af1a93ac0", func := "pith/pithlaw17.ChunkOrder", spec := "chunkOrder", named := ["pith/chunk.follows", "pith/chunk.forms", "pith/chunk.lengths"], apart := false, laid := [("pith/chunk.forms", laid_pith_chunk_forms), ("pith/chunk.lengths", laid_pith_chunk_lengths), ("pith/chunk.follows", laid_pith_chunk_follows)], narrowed := true }
def ChunkOrderUptoSaid : Prop := chunkOrderUptoRow.holds Tryd.pinned (OpenSpec.upto chunkOrderSpec)

/-- 'pithlaw17.ChunkExact', WHERE WHAT IT READS IS OF BULK AT MOST 1048576: true; the input reads as it did. -/
def chunkExactUptoRow : OpenClaim := { program := "ytannepoclpmedaadoor", sum := "c7687a60cab64f0cedb2c12325630f2926ab88f0196e362e9182c60af1a93ac0", func := "pith/pithlaw17.ChunkExact", spec := "chunkExact", named := ["pith/chunk.forms", "pith/chunk.lengths"], apart := false, laid := [("pith/chunk.forms", laid_pith_chunk_forms), ("pith/chunk.lengths", laid_pith_chunk_lengths)], narrowed := true }
def ChunkExactUptoSaid : Prop := chunkExactUptoRow.holds Tryd.pinned (OpenSpec.upto chunkExactSpec)

end Rows
end Go.Proofs.YtannepoclpmedaaDoor
