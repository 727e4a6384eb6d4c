/-
  DERIVED. GIVEN WITH THE SEED: THE CARDS: each row of YtehfcfpbjenmjaaDoorRows.lean that lists a variable, with what it lists TIED to the program's text (the seventh form; the later family's looks); each row that meets fmt, with fmt's text TOLD by the authors' own Lean function (tested against real Go, not proved from fmt's source: count such statements apart). THE CARD IS WHAT COUNTS. Prove the row's statement (the work); the ties are given (YtehfcfpbjenmjaaDoorTie.lean); close each card by the builder's one call (the guide's Derived/Test/ToyasCard.lean, 'card_holds'). Laid BY PROGRAM, IN A SANDBOX (cutbox-door.mjs). By AI agents, Wed Nov 11 2026. No macro, syntax, notation, axiom, sorry.
-/
import Derived.Test.YtehfcfpbjenmjaaDoorRows
import GoSem.ClaimSeven
namespace Go.Proofs.YtehfcfpbjenmjaaDoor
namespace Rows

/-- THE TIED CARD OF 'pithlaw23.IndexSole'. -/
def indexSoleCard : Claim7 := { stood := { row := indexSoleRow, standIns := [], harness := (true, "6888d6c3d99c56bddb9e8d272f8776404ba4bd0319a351d6285ea3dcf4c52fbd"), looks := true }, kinds := [], alts := [], laidByText := true, laidKinds := [.data, .data], laidTests := true, laidLooks := .later }
def IndexSoleCardSaid : Prop := Claim7.holds Tryd.pinned (.plain (OpenSpec.ofChange indexSoleSpec)) indexSoleCard

/-- THE TIED CARD OF 'pithlaw23.IndexTold'. -/
def indexToldCard : Claim7 := { stood := { row := indexToldRow, standIns := [], harness := (true, "6888d6c3d99c56bddb9e8d272f8776404ba4bd0319a351d6285ea3dcf4c52fbd"), looks := true }, kinds := [], alts := [], laidByText := true, laidKinds := [.data, .data], laidTests := true, laidLooks := .later }
def IndexToldCardSaid : Prop := Claim7.holds Tryd.pinned (.plain (OpenSpec.ofChange indexToldSpec)) indexToldCard

/-- THE TIED CARD OF 'pithlaw23.IndexBack'. -/
def indexBackCard : Claim7 := { stood := { row := indexBackRow, standIns := [], harness := (true, "6888d6c3d99c56bddb9e8d272f8776404ba4bd0319a351d6285ea3dcf4c52fbd"), looks := true }, kinds := [], alts := [], laidByText := true, laidKinds := [.data, .data], laidTests := true, laidLooks := .later }
def IndexBackCardSaid : Prop := Claim7.holds Tryd.pinned (.plain (OpenSpec.ofChange indexBackSpec)) indexBackCard

/-- THE TIED CARD OF 'pithlaw23.IndexFills'. -/
def indexFillsCard : Claim7 := { stood := { row := indexFillsRow, standIns := [], harness := (true, "6888d6c3d99c56bddb9e8d272f8776404ba4bd0319a351d6285ea3dcf4c52fbd"), looks := true }, kinds := [], alts := [], laidByText := true, laidKinds := [.data, .data], laidTests := true, laidLooks := .later }
def IndexFillsCardSaid : Prop := Claim7.holds Tryd.pinned (.plain (OpenSpec.ofChange indexFillsSpec)) indexFillsCard

/-- THE TIED CARD OF 'pithlaw23.IndexLists'. -/
def indexListsCard : Claim7 := { stood := { row := indexListsRow, standIns := [], harness := (true, "6888d6c3d99c56bddb9e8d272f8776404ba4bd0319a351d6285ea3dcf4c52fbd"), looks := true }, kinds := [], alts := [], laidByText := true, laidKinds := [.data, .data], laidTests := true, laidLooks := .later }
def IndexListsCardSaid : Prop := Claim7.holds Tryd.pinned (.plain (OpenSpec.ofChange indexListsSpec)) indexListsCard

/-- THE TIED CARD OF 'pithlaw23.IndexExact'. -/
def indexExactCard : Claim7 := { stood := { row := indexExactRow, standIns := [], harness := (true, "6888d6c3d99c56bddb9e8d272f8776404ba4bd0319a351d6285ea3dcf4c52fbd"), looks := true }, kinds := [], alts := [], laidByText := true, laidKinds := [.data, .data], laidTests := true, laidLooks := .later }
def IndexExactCardSaid : Prop := Claim7.holds Tryd.pinned (.plain (OpenSpec.ofChange indexExactSpec)) indexExactCard

/-- THE SECOND FORM's CARD OF 'pithlaw23.IndexSole'. -/
def indexSoleUptoCard : Claim7 := { stood := { row := indexSoleUptoRow, standIns := [], harness := (true, "6888d6c3d99c56bddb9e8d272f8776404ba4bd0319a351d6285ea3dcf4c52fbd"), looks := true }, kinds := [], alts := [], laidByText := true, laidKinds := [.data, .data], laidTests := true, laidLooks := .later }
def IndexSoleUptoCardSaid : Prop := Claim7.holds Tryd.pinned (.plain (OpenSpec.upto indexSoleSpec)) indexSoleUptoCard

/-- THE SECOND FORM's CARD OF 'pithlaw23.IndexTold'. -/
def indexToldUptoCard : Claim7 := { stood := { row := indexToldUptoRow, standIns := [], harness := (true, "6888d6c3d99c56bddb9e8d272f8776404ba4bd0319a351d6285ea3dcf4c52fbd"), looks := true }, kinds := [], alts := [], laidByText := true, laidKinds := [.data, .data], laidTests := true, laidLooks := .later }
def IndexToldUptoCardSaid : Prop := Claim7.holds Tryd.pinned (.plain (OpenSpec.upto indexToldSpec)) indexToldUptoCard

/-- THE SECOND FORM's CARD OF 'pithlaw23.IndexBack'. -/
def indexBackUptoCard : Claim7 := { stood := { row := indexBackUptoRow, standIns := [], harness := (true, "6888d6c3d99c56bddb9e8d272f8776404ba4bd0319a351d6285ea3dcf4c52fbd"), looks := true }, kinds := [], alts := [], laidByText := true, laidKinds := [.data, .data], laidTests := true, laidLooks := .later }
def IndexBackUptoCardSaid : Prop := Claim7.holds Tryd.pinned (.plain (OpenSpec.upto indexBackSpec)) indexBackUptoCard

/-- THE SECOND FORM's CARD OF 'pithlaw23.IndexFills'. -/
def indexFillsUptoCard : Claim7 := { stood := { row := indexFillsUptoRow, standIns := [], harness := (true, "6888d6c3d99c56bddb9e8d272f8776404ba4bd0319a351d6285ea3dcf4c52fbd"), looks := true }, kinds := [], alts := [], laidByText := true, laidKinds := [.data, .data], laidTests := true, laidLooks := .later }
def IndexFillsUptoCardSaid : Prop := Claim7.holds Tryd.pinned (.plain (OpenSpec.upto indexFillsSpec)) indexFillsUptoCard

/-- THE SECOND FORM's CARD OF 'pithlaw23.IndexLists'. -/
def indexListsUptoCard : Claim7 := { stood := { row := indexListsUptoRow, standIns := [], harness := (true, "6888d6c3d99c56bddb9e8d272f8776404ba4bd0319a351d6285ea3dcf4c52fbd"), looks := true }, kinds := [], alts := [], laidByText := true, laidKinds := [.data, .data], laidTests := true, laidLooks := .later }
def IndexListsUptoCardSaid : Prop := Claim7.holds Tryd.pinned (.plain (OpenSpec.upto indexListsSpec)) indexListsUptoCard

/-- THE SECOND FORM's CARD OF 'pithlaw23.IndexExact'. -/
def indexExactUptoCard : Claim7 := { stood := { row := indexExactUptoRow, standIns := [], harness := (true, "6888d6c3d99c56bddb9e8d272f8776404ba4bd0319a351d6285ea3dcf4c52fbd"), looks := true }, kinds := [], alts := [], laidByText := true, laidKinds := [.data, .data], laidTests := true, laidLooks := .later }
def IndexExactUptoCardSaid : Prop := Claim7.holds Tryd.pinned (.plain (OpenSpec.upto indexExactSpec)) indexExactUptoCard
end Rows
end Go.Proofs.YtehfcfpbjenmjaaDoor
