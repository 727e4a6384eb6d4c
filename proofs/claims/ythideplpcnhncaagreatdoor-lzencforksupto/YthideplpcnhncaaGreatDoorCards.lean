/-
  DERIVED. GIVEN WITH THE SEED: THE CARDS: each row of YthideplpcnhncaaGreatDoorRows.lean that lists a variable, with what it lists TIED to the program's text (the seventh form; the later family's looks); each row that meets fmt, with fmt's text TOLD by the authors' own Lean function (tested against real Go, not proved from fmt's source: count such statements apart). THE CARD IS WHAT COUNTS. Prove the row's statement (the work); the ties are given (YthideplpcnhncaaGreatDoorTie.lean); close each card by the builder's one call (the guide's Derived/Test/ToyasCard.lean, 'card_holds'). Laid BY PROGRAM, IN A SANDBOX (cutbox-door.mjs). By AI agents, Wed Nov 11 2026. No macro, syntax, notation, axiom, sorry.
-/
import Derived.Test.YthideplpcnhncaaGreatDoorRows
import GoSem.ClaimSeven
namespace Go.Proofs.YthideplpcnhncaaGreatDoor
namespace Rows

/-- THE TIED CARD OF 'pithlaw14.LzencRefused'. -/
def lzencRefusedCard : Claim7 := { stood := { row := lzencRefusedRow, standIns := [], harness := (true, "4defdc764b9d8fc37a73023d94f046d750ecc581c73f2ad878f56bbe144ba14a"), looks := true }, kinds := [], alts := [], laidByText := true, laidKinds := [.data], laidTests := true, laidLooks := .later }
def LzencRefusedCardSaid : Prop := Claim7.holds Tryz.pinned (.plain (OpenSpec.ofChange lzencRefusedSpec)) lzencRefusedCard

/-- THE TIED CARD OF 'pithlaw14.LzencForks'. -/
def lzencForksCard : Claim7 := { stood := { row := lzencForksRow, standIns := [], harness := (true, "4defdc764b9d8fc37a73023d94f046d750ecc581c73f2ad878f56bbe144ba14a"), looks := true }, kinds := [], alts := [], laidByText := true, laidKinds := [.data], laidTests := true, laidLooks := .later }
def LzencForksCardSaid : Prop := Claim7.holds Tryz.pinned (.plain (OpenSpec.ofChange lzencForksSpec)) lzencForksCard

/-- THE TIED CARD OF 'pithlaw14.LzencBack'. -/
def lzencBackCard : Claim7 := { stood := { row := lzencBackRow, standIns := [], harness := (true, "4defdc764b9d8fc37a73023d94f046d750ecc581c73f2ad878f56bbe144ba14a"), looks := true }, kinds := [], alts := [], laidByText := true, laidKinds := [.data, .data, .data, .data], laidTests := true, laidLooks := .later }
def LzencBackCardSaid : Prop := Claim7.holds Tryz.pinned (.plain (OpenSpec.ofChange lzencBackSpec)) lzencBackCard

/-- THE TIED CARD OF 'pithlaw14.LzencExact'. -/
def lzencExactCard : Claim7 := { stood := { row := lzencExactRow, standIns := [], harness := (true, "4defdc764b9d8fc37a73023d94f046d750ecc581c73f2ad878f56bbe144ba14a"), looks := true }, kinds := [], alts := [], laidByText := true, laidKinds := [.data, .data, .data, .data], laidTests := true, laidLooks := .later }
def LzencExactCardSaid : Prop := Claim7.holds Tryz.pinned (.plain (OpenSpec.ofChange lzencExactSpec)) lzencExactCard

/-- THE SECOND FORM's CARD OF 'pithlaw14.LzencRefused'. -/
def lzencRefusedUptoCard : Claim7 := { stood := { row := lzencRefusedUptoRow, standIns := [], harness := (true, "4defdc764b9d8fc37a73023d94f046d750ecc581c73f2ad878f56bbe144ba14a"), looks := true }, kinds := [], alts := [], laidByText := true, laidKinds := [.data], laidTests := true, laidLooks := .later }
def LzencRefusedUptoCardSaid : Prop := Claim7.holds Tryz.pinned (.plain (OpenSpec.upto lzencRefusedSpec)) lzencRefusedUptoCard

/-- THE SECOND FORM's CARD OF 'pithlaw14.LzencForks'. -/
def lzencForksUptoCard : Claim7 := { stood := { row := lzencForksUptoRow, standIns := [], harness := (true, "4defdc764b9d8fc37a73023d94f046d750ecc581c73f2ad878f56bbe144ba14a"), looks := true }, kinds := [], alts := [], laidByText := true, laidKinds := [.data], laidTests := true, laidLooks := .later }
def LzencForksUptoCardSaid : Prop := Claim7.holds Tryz.pinned (.plain (OpenSpec.upto lzencForksSpec)) lzencForksUptoCard

/-- THE SECOND FORM's CARD OF 'pithlaw14.LzencBack'. -/
def lzencBackUptoCard : Claim7 := { stood := { row := lzencBackUptoRow, standIns := [], harness := (true, "4defdc764b9d8fc37a73023d94f046d750ecc581c73f2ad878f56bbe144ba14a"), looks := true }, kinds := [], alts := [], laidByText := true, laidKinds := [.data, .data, .data, .data], laidTests := true, laidLooks := .later }
def LzencBackUptoCardSaid : Prop := Claim7.holds Tryz.pinned (.plain (OpenSpec.upto lzencBackSpec)) lzencBackUptoCard

/-- THE SECOND FORM's CARD OF 'pithlaw14.LzencExact'. -/
def lzencExactUptoCard : Claim7 := { stood := { row := lzencExactUptoRow, standIns := [], harness := (true, "4defdc764b9d8fc37a73023d94f046d750ecc581c73f2ad878f56bbe144ba14a"), looks := true }, kinds := [], alts := [], laidByText := true, laidKinds := [.data, .data, .data, .data], laidTests := true, laidLooks := .later }
def LzencExactUptoCardSaid : Prop := Claim7.holds Tryz.pinned (.plain (OpenSpec.upto lzencExactSpec)) lzencExactUptoCard
end Rows
end Go.Proofs.YthideplpcnhncaaGreatDoor
