/-
  DERIVED. GIVEN WITH THE SEED: THE CARDS: each row of YtmkiohnabbfkcaaDoorRows.lean that lists a variable, with what it lists TIED to the program's text (the seventh form; the later family's looks); each row that meets fmt, with fmt's text TOLD by the authors' own Lean function (tested against real Go, not proved from fmt's source: count such statements apart). THE CARD IS WHAT COUNTS. Prove the row's statement (the work); the ties are given (YtmkiohnabbfkcaaDoorTie.lean); close each card by the builder's one call (the guide's Derived/Test/ToyasCard.lean, 'card_holds'). Laid BY PROGRAM, IN A SANDBOX (cutbox-door.mjs). By AI agents, Wed Nov 11 2026. No macro, syntax, notation, axiom, sorry.
-/
import Derived.Test.YtmkiohnabbfkcaaDoorRows
import GoSem.ClaimSeven
namespace Go.Proofs.YtmkiohnabbfkcaaDoor
namespace Rows

/-- THE TIED CARD OF 'pithlaw20.ChainExact'. -/
def chainExactCard : Claim7 := { stood := { row := chainExactRow, standIns := [], harness := (true, "752df955c6761b7c929998f09588cfd3041d3095b738eb1963a2dba7cb4a0b33"), looks := false }, kinds := [], alts := [], laidByText := true, laidKinds := [.data, .data], laidTests := true, laidLooks := .later }
def ChainExactCardSaid : Prop := Claim7.holds Tryd.pinned (.plain (OpenSpec.ofChange chainExactSpec)) chainExactCard

/-- THE TIED CARD OF 'pithlaw20.ChainSole'. -/
def chainSoleCard : Claim7 := { stood := { row := chainSoleRow, standIns := [], harness := (true, "752df955c6761b7c929998f09588cfd3041d3095b738eb1963a2dba7cb4a0b33"), looks := false }, kinds := [], alts := [], laidByText := true, laidKinds := [.data, .data], laidTests := true, laidLooks := .later }
def ChainSoleCardSaid : Prop := Claim7.holds Tryd.pinned (.plain (OpenSpec.ofChange chainSoleSpec)) chainSoleCard

/-- THE SECOND FORM's CARD OF 'pithlaw20.ChainExact'. -/
def chainExactUptoCard : Claim7 := { stood := { row := chainExactUptoRow, standIns := [], harness := (true, "752df955c6761b7c929998f09588cfd3041d3095b738eb1963a2dba7cb4a0b33"), looks := false }, kinds := [], alts := [], laidByText := true, laidKinds := [.data, .data], laidTests := true, laidLooks := .later }
def ChainExactUptoCardSaid : Prop := Claim7.holds Tryd.pinned (.plain (OpenSpec.upto chainExactSpec)) chainExactUptoCard

/-- THE SECOND FORM's CARD OF 'pithlaw20.ChainSole'. -/
def chainSoleUptoCard : Claim7 := { stood := { row := chainSoleUptoRow, standIns := [], harness := (true, "752df955c6761b7c929998f09588cfd3041d3095b738eb1963a2dba7cb4a0b33"), looks := false }, kinds := [], alts := [], laidByText := true, laidKinds := [.data, .data], laidTests := true, laidLooks := .later }
def ChainSoleUptoCardSaid : Prop := Claim7.holds Tryd.pinned (.plain (OpenSpec.upto chainSoleSpec)) chainSoleUptoCard
end Rows
end Go.Proofs.YtmkiohnabbfkcaaDoor
