/-
  DERIVED. GIVEN WITH THE SEED: THE CARDS: each row of YtkjjcdkobapedaaDoorRows.lean that lists a variable, with what it lists TIED to the program's text (the seventh form; the later family's looks); each row that meets fmt, with fmt's text TOLD by the authors' own Lean function (tested against real Go, not proved from fmt's source: count such statements apart). THE CARD IS WHAT COUNTS. Prove the row's statement (the work); the ties are given (YtkjjcdkobapedaaDoorTie.lean); close each card by the builder's one call (the guide's Derived/Test/ToyasCard.lean, 'card_holds'). Laid BY PROGRAM, IN A SANDBOX (cutbox-door.mjs). By AI agents, Wed Nov 11 2026. No macro, syntax, notation, axiom, sorry.
-/
import Derived.Test.YtkjjcdkobapedaaDoorRows
import GoSem.ClaimSeven
namespace Go.Proofs.YtkjjcdkobapedaaDoor
namespace Rows

/-- THE TIED CARD OF 'pithlaw02.VarintLeast'. -/
def varintLeastCard : Claim7 := { stood := { row := varintLeastRow, standIns := [], harness := (true, "9eaca55c46c199496ff09bc0497ecf8d869f991bd74fb21b856a185c3ef4797a"), looks := false }, kinds := [], alts := [], laidByText := true, laidKinds := [.data], laidTests := true, laidLooks := .later }
def VarintLeastCardSaid : Prop := Claim7.holds Tryd.pinned (.plain (OpenSpec.ofChange varintLeastSpec)) varintLeastCard

/-- THE TIED CARD OF 'pithlaw02.VarintBack'. -/
def varintBackCard : Claim7 := { stood := { row := varintBackRow, standIns := [], harness := (true, "9eaca55c46c199496ff09bc0497ecf8d869f991bd74fb21b856a185c3ef4797a"), looks := false }, kinds := [], alts := [], laidByText := true, laidKinds := [.data], laidTests := true, laidLooks := .later }
def VarintBackCardSaid : Prop := Claim7.holds Tryd.pinned (.plain (OpenSpec.ofChange varintBackSpec)) varintBackCard

/-- THE TIED CARD OF 'pithlaw02.VarintSole'. -/
def varintSoleCard : Claim7 := { stood := { row := varintSoleRow, standIns := [], harness := (true, "9eaca55c46c199496ff09bc0497ecf8d869f991bd74fb21b856a185c3ef4797a"), looks := false }, kinds := [], alts := [], laidByText := true, laidKinds := [.data], laidTests := true, laidLooks := .later }
def VarintSoleCardSaid : Prop := Claim7.holds Tryd.pinned (.plain (OpenSpec.ofChange varintSoleSpec)) varintSoleCard

/-- THE TIED CARD OF 'pithlaw02.VarintApart'. -/
def varintApartCard : Claim7 := { stood := { row := varintApartRow, standIns := [], harness := (true, "9eaca55c46c199496ff09bc0497ecf8d869f991bd74fb21b856a185c3ef4797a"), looks := false }, kinds := [], alts := [], laidByText := true, laidKinds := [.data], laidTests := true, laidLooks := .later }
def VarintApartCardSaid : Prop := Claim7.holds Tryd.pinned (.plain (OpenSpec.ofChange varintApartSpec)) varintApartCard

/-- THE TIED CARD OF 'pithlaw02.VarintRows'. -/
def varintRowsCard : Claim7 := { stood := { row := varintRowsRow, standIns := [], harness := (true, "9eaca55c46c199496ff09bc0497ecf8d869f991bd74fb21b856a185c3ef4797a"), looks := false }, kinds := [], alts := [], laidByText := true, laidKinds := [.data], laidTests := true, laidLooks := .later }
def VarintRowsCardSaid : Prop := Claim7.holds Tryd.pinned (.plain (OpenSpec.ofChange varintRowsSpec)) varintRowsCard

/-- THE TIED CARD OF 'pithlaw02.VarintExact'. -/
def varintExactCard : Claim7 := { stood := { row := varintExactRow, standIns := [], harness := (true, "9eaca55c46c199496ff09bc0497ecf8d869f991bd74fb21b856a185c3ef4797a"), looks := false }, kinds := [], alts := [], laidByText := true, laidKinds := [.data], laidTests := true, laidLooks := .later }
def VarintExactCardSaid : Prop := Claim7.holds Tryd.pinned (.plain (OpenSpec.ofChange varintExactSpec)) varintExactCard

/-- THE SECOND FORM's CARD OF 'pithlaw02.VarintLeast'. -/
def varintLeastUptoCard : Claim7 := { stood := { row := varintLeastUptoRow, standIns := [], harness := (true, "9eaca55c46c199496ff09bc0497ecf8d869f991bd74fb21b856a185c3ef4797a"), looks := false }, kinds := [], alts := [], laidByText := true, laidKinds := [.data], laidTests := true, laidLooks := .later }
def VarintLeastUptoCardSaid : Prop := Claim7.holds Tryd.pinned (.plain (OpenSpec.upto varintLeastSpec)) varintLeastUptoCard

/-- THE SECOND FORM's CARD OF 'pithlaw02.VarintBack'. -/
def varintBackUptoCard : Claim7 := { stood := { row := varintBackUptoRow, standIns := [], harness := (true, "9eaca55c46c199496ff09bc0497ecf8d869f991bd74fb21b856a185c3ef4797a"), looks := false }, kinds := [], alts := [], laidByText := true, laidKinds := [.data], laidTests := true, laidLooks := .later }
def VarintBackUptoCardSaid : Prop := Claim7.holds Tryd.pinned (.plain (OpenSpec.upto varintBackSpec)) varintBackUptoCard

/-- THE SECOND FORM's CARD OF 'pithlaw02.VarintSole'. -/
def varintSoleUptoCard : Claim7 := { stood := { row := varintSoleUptoRow, standIns := [], harness := (true, "9eaca55c46c199496ff09bc0497ecf8d869f991bd74fb21b856a185c3ef4797a"), looks := false }, kinds := [], alts := [], laidByText := true, laidKinds := [.data], laidTests := true, laidLooks := .later }
def VarintSoleUptoCardSaid : Prop := Claim7.holds Tryd.pinned (.plain (OpenSpec.upto varintSoleSpec)) varintSoleUptoCard

/-- THE SECOND FORM's CARD OF 'pithlaw02.VarintApart'. -/
def varintApartUptoCard : Claim7 := { stood := { row := varintApartUptoRow, standIns := [], harness := (true, "9eaca55c46c199496ff09bc0497ecf8d869f991bd74fb21b856a185c3ef4797a"), looks := false }, kinds := [], alts := [], laidByText := true, laidKinds := [.data], laidTests := true, laidLooks := .later }
def VarintApartUptoCardSaid : Prop := Claim7.holds Tryd.pinned (.plain (OpenSpec.upto varintApartSpec)) varintApartUptoCard

/-- THE SECOND FORM's CARD OF 'pithlaw02.VarintRows'. -/
def varintRowsUptoCard : Claim7 := { stood := { row := varintRowsUptoRow, standIns := [], harness := (true, "9eaca55c46c199496ff09bc0497ecf8d869f991bd74fb21b856a185c3ef4797a"), looks := false }, kinds := [], alts := [], laidByText := true, laidKinds := [.data], laidTests := true, laidLooks := .later }
def VarintRowsUptoCardSaid : Prop := Claim7.holds Tryd.pinned (.plain (OpenSpec.upto varintRowsSpec)) varintRowsUptoCard

/-- THE SECOND FORM's CARD OF 'pithlaw02.VarintExact'. -/
def varintExactUptoCard : Claim7 := { stood := { row := varintExactUptoRow, standIns := [], harness := (true, "9eaca55c46c199496ff09bc0497ecf8d869f991bd74fb21b856a185c3ef4797a"), looks := false }, kinds := [], alts := [], laidByText := true, laidKinds := [.data], laidTests := true, laidLooks := .later }
def VarintExactUptoCardSaid : Prop := Claim7.holds Tryd.pinned (.plain (OpenSpec.upto varintExactSpec)) varintExactUptoCard
end Rows
end Go.Proofs.YtkjjcdkobapedaaDoor
