/-
  No cell of these rows narrows 'for every input' (looked for: loops, veiled, ifaces, maps, wideKeys, modest, calm, conditions, laid).
  DERIVED. THE GIVEN ROWS OF THIS SEAT. 5 by the template 'for every input the law returns true; each argument reads behind the call as it read before'; 0 by the template 'total and deterministic' (their statements: YtibgjpifmpljkaaTotals.lean).
  GIVEN WITH THE SEED: the statements are not yours to turn. If you find one false, say at which input.
  Laid BY PROGRAM, IN A SANDBOX (cutbox-rows.mjs): the forced cells as the released guide's own fill.sh prints them over the translation 2f627c4a31f0f583… (all of the seat's roots in one cut). By AI agents, Wed Nov 11 2026. No macro, syntax, notation, axiom, sorry.
-/
import Derived.Test.YtibgjpifmpljkaaChecked
import GoSem.Claim
import GoSem.ClaimJoined
import GoSem.ClaimMapViews
import Derived.JoinedTies
import Derived.KernelRfl
namespace Go.Proofs.Ytibgjpifmpljkaa
/- THE CELL 'sum', in the pinned program and in every row, IS THE sha256 OF THE DUMP (.gsa) THAT YtibgjpifmpljkaaProg.lean LOADS. Nothing in Lean hashes anything: it is a label: what it is worth is what the hold of that sum in a sandbox is worth. -/
noncomputable def Try.pinned : Pinned := { name := "ytibgjpifmpljkaa", sum := "2f627c4a31f0f583d0cb0fa896f72e4dd9166488376c0be4aefce5a4482ca09f", checked := Try.checked }
namespace Rows
def none {H : Type} : Left H := { results := [], args := [] }

/-- 'pithlaw09.TreeCheaper': WHATEVER THE INPUT: true; the input reads as it did. -/
def treeCheaperSpec : ChangeSpec := { name := "treeCheaper", fn := fun _ => fun
  | [d1, d2, d3] => { results := [.lit (.bool true)], args := [d1, d2, d3] }
  | _ => none }
def treeCheaperRow : OpenClaim := { program := "ytibgjpifmpljkaa", sum := "2f627c4a31f0f583d0cb0fa896f72e4dd9166488376c0be4aefce5a4482ca09f", func := "pith/pithlaw09.TreeCheaper", spec := "treeCheaper", unfollowed := true, recurses := true, apart := false }
def TreeCheaperSaid : Prop := treeCheaperRow.holds Try.pinned (OpenSpec.ofChange treeCheaperSpec)

/-- ITS FALSE NEIGHBOUR: 'it returns false'. Refute it at one input. -/
def treeCheaperWrong : ChangeSpec := { name := "treeCheaper", fn := fun _ => fun
  | [d1, d2, d3] => { results := [.lit (.bool false)], args := [d1, d2, d3] }
  | _ => none }
def TreeCheaperWrongFalsely : Prop := treeCheaperRow.holds Try.pinned (OpenSpec.ofChange treeCheaperWrong)

/-- 'pithlaw09.TreeTwoOrders': WHATEVER THE INPUT: true; the input reads as it did. -/
def treeTwoOrdersSpec : ChangeSpec := { name := "treeTwoOrders", fn := fun _ => fun
  | [d1, d2, d3] => { results := [.lit (.bool true)], args := [d1, d2, d3] }
  | _ => none }
def treeTwoOrdersRow : OpenClaim := { program := "ytibgjpifmpljkaa", sum := "2f627c4a31f0f583d0cb0fa896f72e4dd9166488376c0be4aefce5a4482ca09f", func := "pith/pithlaw09.TreeTwoOrders", spec := "treeTwoOrders", unfollowed := true, recurses := true, apart := false }
def TreeTwoOrdersSaid : Prop := treeTwoOrdersRow.holds Try.pinned (OpenSpec.ofChange treeTwoOrdersSpec)

/-- ITS FALSE NEIGHBOUR: 'it returns false'. Refute it at one input. -/
def treeTwoOrdersWrong : ChangeSpec := { name := "treeTwoOrders", fn := fun _ => fun
  | [d1, d2, d3] => { results := [.lit (.bool false)], args := [d1, d2, d3] }
  | _ => none }
def TreeTwoOrdersWrongFalsely : Prop := treeTwoOrdersRow.holds Try.pinned (OpenSpec.ofChange treeTwoOrdersWrong)

/-- 'pithlaw09.TreeBack': WHATEVER THE INPUT: true; the input reads as it did. -/
def treeBackSpec : ChangeSpec := { name := "treeBack", fn := fun _ => fun
  | [d1, d2] => { results := [.lit (.bool true)], args := [d1, d2] }
  | _ => none }
def treeBackRow : OpenClaim := { program := "ytibgjpifmpljkaa", sum := "2f627c4a31f0f583d0cb0fa896f72e4dd9166488376c0be4aefce5a4482ca09f", func := "pith/pithlaw09.TreeBack", spec := "treeBack", unfollowed := true, recurses := true, apart := false }
def TreeBackSaid : Prop := treeBackRow.holds Try.pinned (OpenSpec.ofChange treeBackSpec)

/-- ITS FALSE NEIGHBOUR: 'it returns false'. Refute it at one input. -/
def treeBackWrong : ChangeSpec := { name := "treeBack", fn := fun _ => fun
  | [d1, d2] => { results := [.lit (.bool false)], args := [d1, d2] }
  | _ => none }
def TreeBackWrongFalsely : Prop := treeBackRow.holds Try.pinned (OpenSpec.ofChange treeBackWrong)

/-- 'pithlaw09.TreeCodes': WHATEVER THE INPUT: true; the input reads as it did. -/
def treeCodesSpec : ChangeSpec := { name := "treeCodes", fn := fun _ => fun
  | [d1, d2] => { results := [.lit (.bool true)], args := [d1, d2] }
  | _ => none }
def treeCodesRow : OpenClaim := { program := "ytibgjpifmpljkaa", sum := "2f627c4a31f0f583d0cb0fa896f72e4dd9166488376c0be4aefce5a4482ca09f", func := "pith/pithlaw09.TreeCodes", spec := "treeCodes", unfollowed := true, recurses := true, apart := false }
def TreeCodesSaid : Prop := treeCodesRow.holds Try.pinned (OpenSpec.ofChange treeCodesSpec)

/-- ITS FALSE NEIGHBOUR: 'it returns false'. Refute it at one input. -/
def treeCodesWrong : ChangeSpec := { name := "treeCodes", fn := fun _ => fun
  | [d1, d2] => { results := [.lit (.bool false)], args := [d1, d2] }
  | _ => none }
def TreeCodesWrongFalsely : Prop := treeCodesRow.holds Try.pinned (OpenSpec.ofChange treeCodesWrong)

/-- 'pithlaw09.TreeReads': WHATEVER THE INPUT: true; the input reads as it did. -/
def treeReadsSpec : ChangeSpec := { name := "treeReads", fn := fun _ => fun
  | [d1, d2, d3] => { results := [.lit (.bool true)], args := [d1, d2, d3] }
  | _ => none }
def treeReadsRow : OpenClaim := { program := "ytibgjpifmpljkaa", sum := "2f627c4a31f0f583d0cb0fa896f72e4dd9166488376c0be4aefce5a4482ca09f", func := "pith/pithlaw09.TreeReads", spec := "treeReads", unfollowed := true, recurses := true, apart := false }
def TreeReadsSaid : Prop := treeReadsRow.holds Try.pinned (OpenSpec.ofChange treeReadsSpec)

/-- ITS FALSE NEIGHBOUR: 'it returns false'. Refute it at one input. -/
def treeReadsWrong : ChangeSpec := { name := "treeReads", fn := fun _ => fun
  | [d1, d2, d3] => { results := [.lit (.bool false)], args := [d1, d2, d3] }
  | _ => none }
def TreeReadsWrongFalsely : Prop := treeReadsRow.holds Try.pinned (OpenSpec.ofChange treeReadsWrong)

/- THE SECOND FORM. 'bulk': how many values and letters a reading holds, each counted each time it is reached (what is shared counts as often as it is met; a slice's spare places count too). A statement '..UptoSaid' is the law's where the arguments, and the package variables that the reading takes, are together of bulk at most 1048576: NARROWER than '..Said'. Prove '..Said' where nothing that the law and all that it calls make is longer than what came in: it says more and counts as full. Else prove '..UptoSaid'. A law counts once. -/
mutual
def uptoBulk {H : Type} : DataW H → Nat
  | .lit (.string bytes) => bytes.length + 1
  | .lit _ => 1
  | .nil => 1
  | .ptr d => uptoBulk d + 1
  | .slice elems spare => uptoBulkAll elems + uptoBulkAll spare + 1
  | .agg parts => uptoBulkAll parts + 1
  | .iface _ d => uptoBulk d + 1
  | .map entries => uptoBulkEntries entries + 1
  | .held _ => 1
def uptoBulkAll {H : Type} : List (DataW H) → Nat
  | [] => 0
  | d :: r => uptoBulk d + uptoBulkAll r
def uptoBulkEntries {H : Type} : List (Lit × DataW H) → Nat
  | [] => 0
  | x :: r => uptoBulkEntry x + uptoBulkEntries r
def uptoBulkEntry {H : Type} : Lit × DataW H → Nat
  | (.string bytes, d) => bytes.length + uptoBulk d + 1
  | (_, d) => uptoBulk d + 1
 end
def uptoSmall : (H : Type) → List (DataW H) → Bool := fun _ ds => decide (uptoBulkAll ds ≤ 1048576)
def OpenSpec.upto (s : _root_.Go.ChangeSpec) : _root_.Go.OpenSpec := { _root_.Go.OpenSpec.ofChange s with cond := some uptoSmall }

/-- 'pithlaw09.TreeCheaper', WHERE WHAT IT READS IS OF BULK AT MOST 1048576: true; the input reads as it did. -/
def treeCheaperUptoRow : OpenClaim := { program := "ytibgjpifmpljkaa", sum := "2f627c4a31f0f583d0cb0fa896f72e4dd9166488376c0be4aefce5a4482ca09f", func := "pith/pithlaw09.TreeCheaper", spec := "treeCheaper", unfollowed := true, recurses := true, apart := false, narrowed := true }
def TreeCheaperUptoSaid : Prop := treeCheaperUptoRow.holds Try.pinned (OpenSpec.upto treeCheaperSpec)

/-- 'pithlaw09.TreeTwoOrders', WHERE WHAT IT READS IS OF BULK AT MOST 1048576: true; the input reads as it did. -/
def treeTwoOrdersUptoRow : OpenClaim := { program := "ytibgjpifmpljkaa", sum := "2f627c4a31f0f583d0cb0fa896f72e4dd9166488376c0be4aefce5a4482ca09f", func := "pith/pithlaw09.TreeTwoOrders", spec := "treeTwoOrders", unfollowed := true, recurses := true, apart := false, narrowed := true }
def TreeTwoOrdersUptoSaid : Prop := treeTwoOrdersUptoRow.holds Try.pinned (OpenSpec.upto treeTwoOrdersSpec)

/-- 'pithlaw09.TreeBack', WHERE WHAT IT READS IS OF BULK AT MOST 1048576: true; the input reads as it did. -/
def treeBackUptoRow : OpenClaim := { program := "ytibgjpifmpljkaa", sum := "2f627c4a31f0f583d0cb0fa896f72e4dd9166488376c0be4aefce5a4482ca09f", func := "pith/pithlaw09.TreeBack", spec := "treeBack", unfollowed := true, recurses := true, apart := false, narrowed := true }
def TreeBackUptoSaid : Prop := treeBackUptoRow.holds Try.pinned (OpenSpec.upto treeBackSpec)

/-- 'pithlaw09.TreeCodes', WHERE WHAT IT READS IS OF BULK AT MOST 1048576: true; the input reads as it did. -/
def treeCodesUptoRow : OpenClaim := { program := "ytibgjpifmpljkaa", sum := "2f627c4a31f0f583d0cb0fa896f72e4dd9166488376c0be4aefce5a4482ca09f", func := "pith/pithlaw09.TreeCodes", spec := "treeCodes", unfollowed := true, recurses := true, apart := false, narrowed := true }
def TreeCodesUptoSaid : Prop := treeCodesUptoRow.holds Try.pinned (OpenSpec.upto treeCodesSpec)

/-- 'pithlaw09.TreeReads', WHERE WHAT IT READS IS OF BULK AT MOST 1048576: true; the input reads as it did. -/
def treeReadsUptoRow : OpenClaim := { program := "ytibgjpifmpljkaa", sum := "2f627c4a31f0f583d0cb0fa896f72e4dd9166488376c0be4aefce5a4482ca09f", func := "pith/pithlaw09.TreeReads", spec := "treeReads", unfollowed := true, recurses := true, apart := false, narrowed := true }
def TreeReadsUptoSaid : Prop := treeReadsUptoRow.holds Try.pinned (OpenSpec.upto treeReadsSpec)

end Rows
end Go.Proofs.Ytibgjpifmpljkaa
