/-
  No cell of these rows narrows 'for every input' (looked for: loops, veiled, ifaces, maps, wideKeys, modest, calm, conditions, laid).
  DERIVED. THE GIVEN ROWS OF THIS SEAT. 5 by the template 'for every input the law returns true; each argument reads behind the call as it read before'; 0 by the template 'total and deterministic' (their statements: YthhjllhcgdkjnaaTotals.lean).
  GIVEN WITH THE SEED: the statements are not yours to turn. If you find one false, say at which input.
  Laid BY PROGRAM, IN A SANDBOX (cutbox-rows.mjs): the forced cells as the released guide's own fill.sh prints them over the translation a36788541ef0c3cf… (all of the seat's roots in one cut). By AI agents, Wed Nov 11 2026. No macro, syntax, notation, axiom, sorry.
-/
import Derived.Test.YthhjllhcgdkjnaaChecked
import GoSem.Claim
import GoSem.ClaimJoined
import GoSem.ClaimMapViews
import Derived.JoinedTies
import Derived.KernelRfl
namespace Go.Proofs.Ythhjllhcgdkjnaa
/- THE CELL 'sum', in the pinned program and in every row, IS THE sha256 OF THE DUMP (.gsa) THAT YthhjllhcgdkjnaaProg.lean LOADS. Nothing in Lean hashes anything: it is a label: what it is worth is what the hold of that sum in a sandbox is worth. -/
noncomputable def Try.pinned : Pinned := { name := "ythhjllhcgdkjnaa", sum := "a36788541ef0c3cf6abac1054276a7ebff19b3cedb03f5dcf307d3855a79ce78", checked := Try.checked }
namespace Rows
def none {H : Type} : Left H := { results := [], args := [] }

/-- 'pithlaw07.RcencDirect': WHATEVER THE INPUT: true; the input reads as it did. -/
def rcencDirectSpec : ChangeSpec := { name := "rcencDirect", fn := fun _ => fun
  | [d1, d2] => { results := [.lit (.bool true)], args := [d1, d2] }
  | _ => none }
def rcencDirectRow : OpenClaim := { program := "ythhjllhcgdkjnaa", sum := "a36788541ef0c3cf6abac1054276a7ebff19b3cedb03f5dcf307d3855a79ce78", func := "pith/pithlaw07.RcencDirect", spec := "rcencDirect", apart := false }
def RcencDirectSaid : Prop := rcencDirectRow.holds Try.pinned (OpenSpec.ofChange rcencDirectSpec)

/-- ITS FALSE NEIGHBOUR: 'it returns false'. Refute it at one input. -/
def rcencDirectWrong : ChangeSpec := { name := "rcencDirect", fn := fun _ => fun
  | [d1, d2] => { results := [.lit (.bool false)], args := [d1, d2] }
  | _ => none }
def RcencDirectWrongFalsely : Prop := rcencDirectRow.holds Try.pinned (OpenSpec.ofChange rcencDirectWrong)

/-- 'pithlaw07.RcencOrder': WHATEVER THE INPUT: true; the input reads as it did. -/
def rcencOrderSpec : ChangeSpec := { name := "rcencOrder", fn := fun _ => fun
  | [d1, d2, d3] => { results := [.lit (.bool true)], args := [d1, d2, d3] }
  | _ => none }
def rcencOrderRow : OpenClaim := { program := "ythhjllhcgdkjnaa", sum := "a36788541ef0c3cf6abac1054276a7ebff19b3cedb03f5dcf307d3855a79ce78", func := "pith/pithlaw07.RcencOrder", spec := "rcencOrder", apart := false }
def RcencOrderSaid : Prop := rcencOrderRow.holds Try.pinned (OpenSpec.ofChange rcencOrderSpec)

/-- ITS FALSE NEIGHBOUR: 'it returns false'. Refute it at one input. -/
def rcencOrderWrong : ChangeSpec := { name := "rcencOrder", fn := fun _ => fun
  | [d1, d2, d3] => { results := [.lit (.bool false)], args := [d1, d2, d3] }
  | _ => none }
def RcencOrderWrongFalsely : Prop := rcencOrderRow.holds Try.pinned (OpenSpec.ofChange rcencOrderWrong)

/-- 'pithlaw07.RcencTurns': WHATEVER THE INPUT: true; the input reads as it did. -/
def rcencTurnsSpec : ChangeSpec := { name := "rcencTurns", fn := fun _ => fun
  | [d1, d2, d3] => { results := [.lit (.bool true)], args := [d1, d2, d3] }
  | _ => none }
def rcencTurnsRow : OpenClaim := { program := "ythhjllhcgdkjnaa", sum := "a36788541ef0c3cf6abac1054276a7ebff19b3cedb03f5dcf307d3855a79ce78", func := "pith/pithlaw07.RcencTurns", spec := "rcencTurns", apart := false }
def RcencTurnsSaid : Prop := rcencTurnsRow.holds Try.pinned (OpenSpec.ofChange rcencTurnsSpec)

/-- ITS FALSE NEIGHBOUR: 'it returns false'. Refute it at one input. -/
def rcencTurnsWrong : ChangeSpec := { name := "rcencTurns", fn := fun _ => fun
  | [d1, d2, d3] => { results := [.lit (.bool false)], args := [d1, d2, d3] }
  | _ => none }
def RcencTurnsWrongFalsely : Prop := rcencTurnsRow.holds Try.pinned (OpenSpec.ofChange rcencTurnsWrong)

/-- 'pithlaw07.RcencAsked': WHATEVER THE INPUT: true; the input reads as it did. -/
def rcencAskedSpec : ChangeSpec := { name := "rcencAsked", fn := fun _ => fun
  | [d1, d2, d3] => { results := [.lit (.bool true)], args := [d1, d2, d3] }
  | _ => none }
def rcencAskedRow : OpenClaim := { program := "ythhjllhcgdkjnaa", sum := "a36788541ef0c3cf6abac1054276a7ebff19b3cedb03f5dcf307d3855a79ce78", func := "pith/pithlaw07.RcencAsked", spec := "rcencAsked", apart := false }
def RcencAskedSaid : Prop := rcencAskedRow.holds Try.pinned (OpenSpec.ofChange rcencAskedSpec)

/-- ITS FALSE NEIGHBOUR: 'it returns false'. Refute it at one input. -/
def rcencAskedWrong : ChangeSpec := { name := "rcencAsked", fn := fun _ => fun
  | [d1, d2, d3] => { results := [.lit (.bool false)], args := [d1, d2, d3] }
  | _ => none }
def RcencAskedWrongFalsely : Prop := rcencAskedRow.holds Try.pinned (OpenSpec.ofChange rcencAskedWrong)

/-- 'pithlaw07.RcencPlays': WHATEVER THE INPUT: true; the input reads as it did. -/
def rcencPlaysSpec : ChangeSpec := { name := "rcencPlays", fn := fun _ => fun
  | [d1, d2, d3] => { results := [.lit (.bool true)], args := [d1, d2, d3] }
  | _ => none }
def rcencPlaysRow : OpenClaim := { program := "ythhjllhcgdkjnaa", sum := "a36788541ef0c3cf6abac1054276a7ebff19b3cedb03f5dcf307d3855a79ce78", func := "pith/pithlaw07.RcencPlays", spec := "rcencPlays", apart := false }
def RcencPlaysSaid : Prop := rcencPlaysRow.holds Try.pinned (OpenSpec.ofChange rcencPlaysSpec)

/-- ITS FALSE NEIGHBOUR: 'it returns false'. Refute it at one input. -/
def rcencPlaysWrong : ChangeSpec := { name := "rcencPlays", fn := fun _ => fun
  | [d1, d2, d3] => { results := [.lit (.bool false)], args := [d1, d2, d3] }
  | _ => none }
def RcencPlaysWrongFalsely : Prop := rcencPlaysRow.holds Try.pinned (OpenSpec.ofChange rcencPlaysWrong)

/- THE SECOND FORM. 'bulk': how many values and letters a reading holds, each counted each time it is reached (what is shared counts as often as it is met; a slice's spare places count too). A statement '..UptoSaid' is the law's where the arguments, and the package variables that the reading takes, are together of bulk at most 1048576: NARROWER than '..Said'. Prove '..Said' where nothing that the law and all that it calls make is longer than what came in: it says more and counts as full. Else prove '..UptoSaid'. A law counts once. -/
mutual
def uptoBulk {H : Type} : DataW H → Nat
  | .lit (.string bytes) => bytes.length + 1
  | .lit _ => 1
  | .nil => 1
  | .ptr d => uptoBulk d + 1
  | .slice elems spare => uptoBulkAll elems + uptoBulkAll spare + 1
  | .agg parts => uptoBulkAll parts + 1
  | .iface _ d => uptoBulk d + 1
  | .map entries => uptoBulkEntries entries + 1
  | .held _ => 1
def uptoBulkAll {H : Type} : List (DataW H) → Nat
  | [] => 0
  | d :: r => uptoBulk d + uptoBulkAll r
def uptoBulkEntries {H : Type} : List (Lit × DataW H) → Nat
  | [] => 0
  | x :: r => uptoBulkEntry x + uptoBulkEntries r
def uptoBulkEntry {H : Type} : Lit × DataW H → Nat
  | (.string bytes, d) => bytes.length + uptoBulk d + 1
  | (_, d) => uptoBulk d + 1
 end
def uptoSmall : (H : Type) → List (DataW H) → Bool := fun _ ds => decide (uptoBulkAll ds ≤ 1048576)
def OpenSpec.upto (s : _root_.Go.ChangeSpec) : _root_.Go.OpenSpec := { _root_.Go.OpenSpec.ofChange s with cond := some uptoSmall }

/-- 'pithlaw07.RcencDirect', WHERE WHAT IT READS IS OF BULK AT MOST 1048576: true; the input reads as it did. -/
def rcencDirectUptoRow : OpenClaim := { program := "ythhjllhcgdkjnaa", sum := "a36788541ef0c3cf6abac1054276a7ebff19b3cedb03f5dcf307d3855a79ce78", func := "pith/pithlaw07.RcencDirect", spec := "rcencDirect", apart := false, narrowed := true }
def RcencDirectUptoSaid : Prop := rcencDirectUptoRow.holds Try.pinned (OpenSpec.upto rcencDirectSpec)

/-- 'pithlaw07.RcencOrder', WHERE WHAT IT READS IS OF BULK AT MOST 1048576: true; the input reads as it did. -/
def rcencOrderUptoRow : OpenClaim := { program := "ythhjllhcgdkjnaa", sum := "a36788541ef0c3cf6abac1054276a7ebff19b3cedb03f5dcf307d3855a79ce78", func := "pith/pithlaw07.RcencOrder", spec := "rcencOrder", apart := false, narrowed := true }
def RcencOrderUptoSaid : Prop := rcencOrderUptoRow.holds Try.pinned (OpenSpec.upto rcencOrderSpec)

/-- 'pithlaw07.RcencTurns', WHERE WHAT IT READS IS OF BULK AT MOST 1048576: true; the input reads as it did. -/
def rcencTurnsUptoRow : OpenClaim := { program := "ythhjllhcgdkjnaa", sum := "a36788541ef0c3cf6abac1054276a7ebff19b3cedb03f5dcf307d3855a79ce78", func := "pith/pithlaw07.RcencTurns", spec := "rcencTurns", apart := false, narrowed := true }
def RcencTurnsUptoSaid : Prop := rcencTurnsUptoRow.holds Try.pinned (OpenSpec.upto rcencTurnsSpec)

/-- 'pithlaw07.RcencAsked', WHERE WHAT IT READS IS OF BULK AT MOST 1048576: true; the input reads as it did. -/
def rcencAskedUptoRow : OpenClaim := { program := "ythhjllhcgdkjnaa", sum := "a36788541ef0c3cf6abac1054276a7ebff19b3cedb03f5dcf307d3855a79ce78", func := "pith/pithlaw07.RcencAsked", spec := "rcencAsked", apart := false, narrowed := true }
def RcencAskedUptoSaid : Prop := rcencAskedUptoRow.holds Try.pinned (OpenSpec.upto rcencAskedSpec)

/-- 'pithlaw07.RcencPlays', WHERE WHAT IT READS IS OF BULK AT MOST 1048576: true; the input reads as it did. -/
def rcencPlaysUptoRow : OpenClaim := { program := "ythhjllhcgdkjnaa", sum := "a36788541ef0c3cf6abac1054276a7ebff19b3cedb03f5dcf307d3855a79ce78", func := "pith/pithlaw07.RcencPlays", spec := "rcencPlays", apart := false, narrowed := true }
def RcencPlaysUptoSaid : Prop := rcencPlaysUptoRow.holds Try.pinned (OpenSpec.upto rcencPlaysSpec)

end Rows
end Go.Proofs.Ythhjllhcgdkjnaa
