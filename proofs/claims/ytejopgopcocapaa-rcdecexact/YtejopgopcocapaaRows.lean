/-
  No cell of these rows narrows 'for every input' (looked for: loops, veiled, ifaces, maps, wideKeys, modest, calm, conditions, laid).
  DERIVED. THE GIVEN ROWS OF THIS SEAT. 5 by the template 'for every input the law returns true; each argument reads behind the call as it read before'; 0 by the template 'total and deterministic' (their statements: YtejopgopcocapaaTotals.lean).
  GIVEN WITH THE SEED: the statements are not yours to turn. If you find one false, say at which input.
  Laid BY PROGRAM, IN A SANDBOX (cutbox-rows.mjs): the forced cells as the released guide's own fill.sh prints them over the translation 1a1c5a284f0ad606… (all of the seat's roots in one cut). By AI agents, Wed Nov 11 2026. No macro, syntax, notation, axiom, sorry.
-/
import Derived.Test.YtejopgopcocapaaChecked
import GoSem.Claim
import GoSem.ClaimJoined
import GoSem.ClaimMapViews
import Derived.JoinedTies
import Derived.KernelRfl
namespace Go.Proofs.Ytejopgopcocapaa
/- THE CELL 'sum', in the pinned program and in every row, IS THE sha256 OF THE DUMP (.gsa) THAT YtejopgopcocapaaProg.lean LOADS. Nothing in Lean hashes anything: it is a label: what it is worth is what the hold of that sum in a sandbox is worth. -/
noncomputable def Try.pinned : Pinned := { name := "ytejopgopcocapaa", sum := "1a1c5a284f0ad60670a225b472c4f65b1bab01aaf6a631bdd89308d95c339f1b", checked := Try.checked }
namespace Rows
def none {H : Type} : Left H := { results := [], args := [] }

/-- 'pithlaw08.RcdecBegins': WHATEVER THE INPUT: true; the input reads as it did. -/
def rcdecBeginsSpec : ChangeSpec := { name := "rcdecBegins", fn := fun _ => fun
  | [d1, d2, d3] => { results := [.lit (.bool true)], args := [d1, d2, d3] }
  | _ => none }
def rcdecBeginsRow : OpenClaim := { program := "ytejopgopcocapaa", sum := "1a1c5a284f0ad60670a225b472c4f65b1bab01aaf6a631bdd89308d95c339f1b", func := "pith/pithlaw08.RcdecBegins", spec := "rcdecBegins", unfollowed := true, recurses := true, apart := false }
def RcdecBeginsSaid : Prop := rcdecBeginsRow.holds Try.pinned (OpenSpec.ofChange rcdecBeginsSpec)

/-- ITS FALSE NEIGHBOUR: 'it returns false'. Refute it at one input. -/
def rcdecBeginsWrong : ChangeSpec := { name := "rcdecBegins", fn := fun _ => fun
  | [d1, d2, d3] => { results := [.lit (.bool false)], args := [d1, d2, d3] }
  | _ => none }
def RcdecBeginsWrongFalsely : Prop := rcdecBeginsRow.holds Try.pinned (OpenSpec.ofChange rcdecBeginsWrong)

/-- 'pithlaw08.RcdecApart': WHATEVER THE INPUT: true; the input reads as it did. -/
def rcdecApartSpec : ChangeSpec := { name := "rcdecApart", fn := fun _ => fun
  | [d1, d2, d3] => { results := [.lit (.bool true)], args := [d1, d2, d3] }
  | _ => none }
def rcdecApartRow : OpenClaim := { program := "ytejopgopcocapaa", sum := "1a1c5a284f0ad60670a225b472c4f65b1bab01aaf6a631bdd89308d95c339f1b", func := "pith/pithlaw08.RcdecApart", spec := "rcdecApart", unfollowed := true, recurses := true, apart := false }
def RcdecApartSaid : Prop := rcdecApartRow.holds Try.pinned (OpenSpec.ofChange rcdecApartSpec)

/-- ITS FALSE NEIGHBOUR: 'it returns false'. Refute it at one input. -/
def rcdecApartWrong : ChangeSpec := { name := "rcdecApart", fn := fun _ => fun
  | [d1, d2, d3] => { results := [.lit (.bool false)], args := [d1, d2, d3] }
  | _ => none }
def RcdecApartWrongFalsely : Prop := rcdecApartRow.holds Try.pinned (OpenSpec.ofChange rcdecApartWrong)

/-- 'pithlaw08.RcdecBack': WHATEVER THE INPUT: true; the input reads as it did. -/
def rcdecBackSpec : ChangeSpec := { name := "rcdecBack", fn := fun _ => fun
  | [d1, d2, d3] => { results := [.lit (.bool true)], args := [d1, d2, d3] }
  | _ => none }
def rcdecBackRow : OpenClaim := { program := "ytejopgopcocapaa", sum := "1a1c5a284f0ad60670a225b472c4f65b1bab01aaf6a631bdd89308d95c339f1b", func := "pith/pithlaw08.RcdecBack", spec := "rcdecBack", unfollowed := true, recurses := true, apart := false }
def RcdecBackSaid : Prop := rcdecBackRow.holds Try.pinned (OpenSpec.ofChange rcdecBackSpec)

/-- ITS FALSE NEIGHBOUR: 'it returns false'. Refute it at one input. -/
def rcdecBackWrong : ChangeSpec := { name := "rcdecBack", fn := fun _ => fun
  | [d1, d2, d3] => { results := [.lit (.bool false)], args := [d1, d2, d3] }
  | _ => none }
def RcdecBackWrongFalsely : Prop := rcdecBackRow.holds Try.pinned (OpenSpec.ofChange rcdecBackWrong)

/-- 'pithlaw08.RcdecAgain': WHATEVER THE INPUT: true; the input reads as it did. -/
def rcdecAgainSpec : ChangeSpec := { name := "rcdecAgain", fn := fun _ => fun
  | [d1, d2, d3] => { results := [.lit (.bool true)], args := [d1, d2, d3] }
  | _ => none }
def rcdecAgainRow : OpenClaim := { program := "ytejopgopcocapaa", sum := "1a1c5a284f0ad60670a225b472c4f65b1bab01aaf6a631bdd89308d95c339f1b", func := "pith/pithlaw08.RcdecAgain", spec := "rcdecAgain", unfollowed := true, recurses := true, apart := false }
def RcdecAgainSaid : Prop := rcdecAgainRow.holds Try.pinned (OpenSpec.ofChange rcdecAgainSpec)

/-- ITS FALSE NEIGHBOUR: 'it returns false'. Refute it at one input. -/
def rcdecAgainWrong : ChangeSpec := { name := "rcdecAgain", fn := fun _ => fun
  | [d1, d2, d3] => { results := [.lit (.bool false)], args := [d1, d2, d3] }
  | _ => none }
def RcdecAgainWrongFalsely : Prop := rcdecAgainRow.holds Try.pinned (OpenSpec.ofChange rcdecAgainWrong)

/-- 'pithlaw08.RcdecExact': WHATEVER THE INPUT: true; the input reads as it did. -/
def rcdecExactSpec : ChangeSpec := { name := "rcdecExact", fn := fun _ => fun
  | [d1, d2, d3] => { results := [.lit (.bool true)], args := [d1, d2, d3] }
  | _ => none }
def rcdecExactRow : OpenClaim := { program := "ytejopgopcocapaa", sum := "1a1c5a284f0ad60670a225b472c4f65b1bab01aaf6a631bdd89308d95c339f1b", func := "pith/pithlaw08.RcdecExact", spec := "rcdecExact", unfollowed := true, recurses := true, apart := false }
def RcdecExactSaid : Prop := rcdecExactRow.holds Try.pinned (OpenSpec.ofChange rcdecExactSpec)

/-- ITS FALSE NEIGHBOUR: 'it returns false'. Refute it at one input. -/
def rcdecExactWrong : ChangeSpec := { name := "rcdecExact", fn := fun _ => fun
  | [d1, d2, d3] => { results := [.lit (.bool false)], args := [d1, d2, d3] }
  | _ => none }
def RcdecExactWrongFalsely : Prop := rcdecExactRow.holds Try.pinned (OpenSpec.ofChange rcdecExactWrong)

/- THE SECOND FORM. 'bulk': how many values and letters a reading holds, each counted each time it is reached (what is shared counts as often as it is met; a slice's spare places count too). A statement '..UptoSaid' is the law's where the arguments, and the package variables that the reading takes, are together of bulk at most 1048576: NARROWER than '..Said'. Prove '..Said' where nothing that the law and all that it calls make is longer than what came in: it says more and counts as full. Else prove '..UptoSaid'. A law counts once. -/
mutual
def uptoBulk {H : Type} : DataW H → Nat
  | .lit (.string bytes) => bytes.length + 1
  | .lit _ => 1
  | .nil => 1
  | .ptr d => uptoBulk d + 1
  | .slice elems spare => uptoBulkAll elems + uptoBulkAll spare + 1
  | .agg parts => uptoBulkAll parts + 1
  | .iface _ d => uptoBulk d + 1
  | .map entries => uptoBulkEntries entries + 1
  | .held _ => 1
def uptoBulkAll {H : Type} : List (DataW H) → Nat
  | [] => 0
  | d :: r => uptoBulk d + uptoBulkAll r
def uptoBulkEntries {H : Type} : List (Lit × DataW H) → Nat
  | [] => 0
  | x :: r => uptoBulkEntry x + uptoBulkEntries r
def uptoBulkEntry {H : Type} : Lit × DataW H → Nat
  | (.string bytes, d) => bytes.length + uptoBulk d + 1
  | (_, d) => uptoBulk d + 1
 end
def uptoSmall : (H : Type) → List (DataW H) → Bool := fun _ ds => decide (uptoBulkAll ds ≤ 1048576)
def OpenSpec.upto (s : _root_.Go.ChangeSpec) : _root_.Go.OpenSpec := { _root_.Go.OpenSpec.ofChange s with cond := some uptoSmall }

/-- 'pithlaw08.RcdecBegins', WHERE WHAT IT READS IS OF BULK AT MOST 1048576: true; the input reads as it did. -/
def rcdecBeginsUptoRow : OpenClaim := { program := "ytejopgopcocapaa", sum := "1a1c5a284f0ad60670a225b472c4f65b1bab01aaf6a631bdd89308d95c339f1b", func := "pith/pithlaw08.RcdecBegins", spec := "rcdecBegins", unfollowed := true, recurses := true, apart := false, narrowed := true }
def RcdecBeginsUptoSaid : Prop := rcdecBeginsUptoRow.holds Try.pinned (OpenSpec.upto rcdecBeginsSpec)

/-- 'pithlaw08.RcdecApart', WHERE WHAT IT READS IS OF BULK AT MOST 1048576: true; the input reads as it did. -/
def rcdecApartUptoRow : OpenClaim := { program := "ytejopgopcocapaa", sum := "1a1c5a284f0ad60670a225b472c4f65b1bab01aaf6a631bdd89308d95c339f1b", func := "pith/pithlaw08.RcdecApart", spec := "rcdecApart", unfollowed := true, recurses := true, apart := false, narrowed := true }
def RcdecApartUptoSaid : Prop := rcdecApartUptoRow.holds Try.pinned (OpenSpec.upto rcdecApartSpec)

/-- 'pithlaw08.RcdecBack', WHERE WHAT IT READS IS OF BULK AT MOST 1048576: true; the input reads as it did. -/
def rcdecBackUptoRow : OpenClaim := { program := "ytejopgopcocapaa", sum := "1a1c5a284f0ad60670a225b472c4f65b1bab01aaf6a631bdd89308d95c339f1b", func := "pith/pithlaw08.RcdecBack", spec := "rcdecBack", unfollowed := true, recurses := true, apart := false, narrowed := true }
def RcdecBackUptoSaid : Prop := rcdecBackUptoRow.holds Try.pinned (OpenSpec.upto rcdecBackSpec)

/-- 'pithlaw08.RcdecAgain', WHERE WHAT IT READS IS OF BULK AT MOST 1048576: true; the input reads as it did. -/
def rcdecAgainUptoRow : OpenClaim := { program := "ytejopgopcocapaa", sum := "1a1c5a284f0ad60670a225b472c4f65b1bab01aaf6a631bdd89308d95c339f1b", func := "pith/pithlaw08.RcdecAgain", spec := "rcdecAgain", unfollowed := true, recurses := true, apart := false, narrowed := true }
def RcdecAgainUptoSaid : Prop := rcdecAgainUptoRow.holds Try.pinned (OpenSpec.upto rcdecAgainSpec)

/-- 'pithlaw08.RcdecExact', WHERE WHAT IT READS IS OF BULK AT MOST 1048576: true; the input reads as it did. -/
def rcdecExactUptoRow : OpenClaim := { program := "ytejopgopcocapaa", sum := "1a1c5a284f0ad60670a225b472c4f65b1bab01aaf6a631bdd89308d95c339f1b", func := "pith/pithlaw08.RcdecExact", spec := "rcdecExact", unfollowed := true, recurses := true, apart := false, narrowed := true }
def RcdecExactUptoSaid : Prop := rcdecExactUptoRow.holds Try.pinned (OpenSpec.upto rcdecExactSpec)

end Rows
end Go.Proofs.Ytejopgopcocapaa
