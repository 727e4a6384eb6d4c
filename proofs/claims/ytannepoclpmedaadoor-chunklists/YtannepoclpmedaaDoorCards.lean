/-
  DERIVED. GIVEN WITH THE SEED: THE CARDS: each row of YtannepoclpmedaaDoorRows.lean that lists a variable, with what it lists TIED to the program's text (the seventh form; the later family's looks); each row that meets fmt, with fmt's text TOLD by the authors' own Lean function (tested against real Go, not proved from fmt's source: count such statements apart). THE CARD IS WHAT COUNTS. Prove the row's statement (the work); the ties are given (YtannepoclpmedaaDoorTie.lean); close each card by the builder's one call (the guide's Derived/Test/ToyasCard.lean, 'card_holds'). Laid BY PROGRAM, IN A SANDBOX (cutbox-door.mjs). By AI agents, Wed Nov 11 2026. No macro, syntax, notation, axiom, sorry.
-/
import Derived.Test.YtannepoclpmedaaDoorRows
import GoSem.ClaimSeven
namespace Go.Proofs.YtannepoclpmedaaDoor
namespace Rows

/-- THE TIED CARD OF 'pithlaw17.ChunkBack'. -/
def chunkBackCard : Claim7 := { stood := { row := chunkBackRow, standIns := [], harness := (true, "fbe1111e3f72761954e88555fefa1729beec994573fbcae1b6563ab78ef6ea20"), looks := false }, kinds := [], alts := [], laidByText := true, laidKinds := [.data, .data], laidTests := true, laidLooks := .later }
def ChunkBackCardSaid : Prop := Claim7.holds Tryd.pinned (.plain (OpenSpec.ofChange chunkBackSpec)) chunkBackCard

/-- THE TIED CARD OF 'pithlaw17.ChunkSole'. -/
def chunkSoleCard : Claim7 := { stood := { row := chunkSoleRow, standIns := [], harness := (true, "fbe1111e3f72761954e88555fefa1729beec994573fbcae1b6563ab78ef6ea20"), looks := false }, kinds := [], alts := [], laidByText := true, laidKinds := [.data, .data], laidTests := true, laidLooks := .later }
def ChunkSoleCardSaid : Prop := Claim7.holds Tryd.pinned (.plain (OpenSpec.ofChange chunkSoleSpec)) chunkSoleCard

/-- THE TIED CARD OF 'pithlaw17.ChunkDicts'. -/
def chunkDictsCard : Claim7 := { stood := { row := chunkDictsRow, standIns := [], harness := (true, "fbe1111e3f72761954e88555fefa1729beec994573fbcae1b6563ab78ef6ea20"), looks := false }, kinds := [], alts := [], laidByText := true, laidKinds := [.data, .data], laidTests := true, laidLooks := .later }
def ChunkDictsCardSaid : Prop := Claim7.holds Tryd.pinned (.plain (OpenSpec.ofChange chunkDictsSpec)) chunkDictsCard

/-- THE TIED CARD OF 'pithlaw17.ChunkLists'. -/
def chunkListsCard : Claim7 := { stood := { row := chunkListsRow, standIns := [], harness := (true, "fbe1111e3f72761954e88555fefa1729beec994573fbcae1b6563ab78ef6ea20"), looks := false }, kinds := [], alts := [], laidByText := true, laidKinds := [.data, .data], laidTests := true, laidLooks := .later }
def ChunkListsCardSaid : Prop := Claim7.holds Tryd.pinned (.plain (OpenSpec.ofChange chunkListsSpec)) chunkListsCard

/-- THE TIED CARD OF 'pithlaw17.ChunkOrder'. -/
def chunkOrderCard : Claim7 := { stood := { row := chunkOrderRow, standIns := [], harness := (true, "fbe1111e3f72761954e88555fefa1729beec994573fbcae1b6563ab78ef6ea20"), looks := false }, kinds := [], alts := [], laidByText := true, laidKinds := [.data, .data, .data], laidTests := true, laidLooks := .later }
def ChunkOrderCardSaid : Prop := Claim7.holds Tryd.pinned (.plain (OpenSpec.ofChange chunkOrderSpec)) chunkOrderCard

/-- THE TIED CARD OF 'pithlaw17.ChunkExact'. -/
def chunkExactCard : Claim7 := { stood := { row := chunkExactRow, standIns := [], harness := (true, "fbe1111e3f72761954e88555fefa1729beec994573fbcae1b6563ab78ef6ea20"), looks := false }, kinds := [], alts := [], laidByText := true, laidKinds := [.data, .data], laidTests := true, laidLooks := .later }
def ChunkExactCardSaid : Prop := Claim7.holds Tryd.pinned (.plain (OpenSpec.ofChange chunkExactSpec)) chunkExactCard

/-- THE SECOND FORM's CARD OF 'pithlaw17.ChunkBack'. -/
def chunkBackUptoCard : Claim7 := { stood := { row := chunkBackUptoRow, standIns := [], harness := (true, "fbe1111e3f72761954e88555fefa1729beec994573fbcae1b6563ab78ef6ea20"), looks := false }, kinds := [], alts := [], laidByText := true, laidKinds := [.data, .data], laidTests := true, laidLooks := .later }
def ChunkBackUptoCardSaid : Prop := Claim7.holds Tryd.pinned (.plain (OpenSpec.upto chunkBackSpec)) chunkBackUptoCard

/-- THE SECOND FORM's CARD OF 'pithlaw17.ChunkSole'. -/
def chunkSoleUptoCard : Claim7 := { stood := { row := chunkSoleUptoRow, standIns := [], harness := (true, "fbe1111e3f72761954e88555fefa1729beec994573fbcae1b6563ab78ef6ea20"), looks := false }, kinds := [], alts := [], laidByText := true, laidKinds := [.data, .data], laidTests := true, laidLooks := .later }
def ChunkSoleUptoCardSaid : Prop := Claim7.holds Tryd.pinned (.plain (OpenSpec.upto chunkSoleSpec)) chunkSoleUptoCard

/-- THE SECOND FORM's CARD OF 'pithlaw17.ChunkDicts'. -/
def chunkDictsUptoCard : Claim7 := { stood := { row := chunkDictsUptoRow, standIns := [], harness := (true, "fbe1111e3f72761954e88555fefa1729beec994573fbcae1b6563ab78ef6ea20"), looks := false }, kinds := [], alts := [], laidByText := true, laidKinds := [.data, .data], laidTests := true, laidLooks := .later }
def ChunkDictsUptoCardSaid : Prop := Claim7.holds Tryd.pinned (.plain (OpenSpec.upto chunkDictsSpec)) chunkDictsUptoCard

/-- THE SECOND FORM's CARD OF 'pithlaw17.ChunkLists'. -/
def chunkListsUptoCard : Claim7 := { stood := { row := chunkListsUptoRow, standIns := [], harness := (true, "fbe1111e3f72761954e88555fefa1729beec994573fbcae1b6563ab78ef6ea20"), looks := false }, kinds := [], alts := [], laidByText := true, laidKinds := [.data, .data], laidTests := true, laidLooks := .later }
def ChunkListsUptoCardSaid : Prop := Claim7.holds Tryd.pinned (.plain (OpenSpec.upto chunkListsSpec)) chunkListsUptoCard

/-- THE SECOND FORM's CARD OF 'pithlaw17.ChunkOrder'. -/
def chunkOrderUptoCard : Claim7 := { stood := { row := chunkOrderUptoRow, standIns := [], harness := (true, "fbe1111e3f72761954e88555fefa1729beec994573fbcae1b6563ab78ef6ea20"), looks := false }, kinds := [], alts := [], laidByText := true, laidKinds := [.data, .data, .data], laidTests := true, laidLooks := .later }
def ChunkOrderUptoCardSaid : Prop := Claim7.holds Tryd.pinned (.plain (OpenSpec.upto chunkOrderSpec)) chunkOrderUptoCard

/-- THE SECOND FORM's CARD OF 'pithlaw17.ChunkExact'. -/
def chunkExactUptoCard : Claim7 := { stood := { row := chunkExactUptoRow, standIns := [], harness := (true, "fbe1111e3f72761954e88555fefa1729beec994573fbcae1b6563ab78ef6ea20"), looks := false }, kinds := [], alts := [], laidByText := true, laidKinds := [.data, .data], laidTests := true, laidLooks := .later }
def ChunkExactUptoCardSaid : Prop := Claim7.holds Tryd.pinned (.plain (OpenSpec.upto chunkExactSpec)) chunkExactUptoCard
end Rows
end Go.Proofs.YtannepoclpmedaaDoor
