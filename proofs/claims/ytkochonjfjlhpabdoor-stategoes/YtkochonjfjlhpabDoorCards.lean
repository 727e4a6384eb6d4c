/-
  DERIVED. GIVEN WITH THE SEED: THE CARDS: each row of YtkochonjfjlhpabDoorRows.lean that lists a variable, with what it lists TIED to the program's text (the seventh form; the later family's looks); each row that meets fmt, with fmt's text TOLD by the authors' own Lean function (tested against real Go, not proved from fmt's source: count such statements apart). THE CARD IS WHAT COUNTS. Prove the row's statement (the work); the ties are given (YtkochonjfjlhpabDoorTie.lean); close each card by the builder's one call (the guide's Derived/Test/ToyasCard.lean, 'card_holds'). Laid BY PROGRAM, IN A SANDBOX (cutbox-door.mjs). By AI agents, Wed Nov 11 2026. No macro, syntax, notation, axiom, sorry.
-/
import Derived.Test.YtkochonjfjlhpabDoorRows
import GoSem.ClaimSeven
namespace Go.Proofs.YtkochonjfjlhpabDoor
namespace Rows

/-- THE TIED CARD OF 'pithlaw12.StateGoes'. -/
def stateGoesCard : Claim7 := { stood := { row := stateGoesRow, standIns := [], harness := (true, "42c8e56e20be05d45d9b89143fa952c2d0602319cae931c1269c5bec79e1afb2"), looks := false }, kinds := [], alts := [], laidByText := true, laidKinds := [.data], laidTests := true, laidLooks := .later }
def StateGoesCardSaid : Prop := Claim7.holds Tryd.pinned (.plain (OpenSpec.ofChange stateGoesSpec)) stateGoesCard

/-- THE SECOND FORM's CARD OF 'pithlaw12.StateGoes'. -/
def stateGoesUptoCard : Claim7 := { stood := { row := stateGoesUptoRow, standIns := [], harness := (true, "42c8e56e20be05d45d9b89143fa952c2d0602319cae931c1269c5bec79e1afb2"), looks := false }, kinds := [], alts := [], laidByText := true, laidKinds := [.data], laidTests := true, laidLooks := .later }
def StateGoesUptoCardSaid : Prop := Claim7.holds Tryd.pinned (.plain (OpenSpec.upto stateGoesSpec)) stateGoesUptoCard
end Rows
end Go.Proofs.YtkochonjfjlhpabDoor
