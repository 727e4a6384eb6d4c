/-
  NARROWER THAN 'FOR EVERY INPUT', by the rows' own cells (each row's printed sentence says how): CrcLinear: laid · CrcBursts: laid · CrcMends: laid · CrcOwn: laid · CrcFlips: laid · CrcPieces: laid.
  DERIVED. THE GIVEN ROWS OF THIS SEAT. 6 by the template 'for every input the law returns true; each argument reads behind the call as it read before'; 0 by the template 'total and deterministic' (their statements: YtmgjbkgooekihaaDoorTotals.lean).
  GIVEN WITH THE SEED: the statements are not yours to turn. If you find one false, say at which input.
  Laid BY PROGRAM, IN A SANDBOX (cutbox-rows.mjs): the forced cells as the released guide's own fill.sh prints them over the translation 8c6656d6e41930d2… (all of the seat's roots in one cut). By AI agents, Wed Nov 11 2026. No macro, syntax, notation, axiom, sorry.
-/
import Derived.Test.YtmgjbkgooekihaaDoorChecked
import GoSem.Claim
import GoSem.ClaimJoined
import GoSem.ClaimMapViews
import Derived.JoinedTies
import Derived.KernelRfl
namespace Go.Proofs.YtmgjbkgooekihaaDoor
/- THE CELL 'sum', in the pinned program and in every row, IS THE sha256 OF THE DUMP (.gsa) THAT YtmgjbkgooekihaaDoorProg.lean LOADS. Nothing in Lean hashes anything: it is a label: what it is worth is what the hold of that sum in a sandbox is worth. -/
noncomputable def Tryd.pinned : Pinned := { name := "ytmgjbkgooekihaadoor", sum := "8c6656d6e41930d28981af07820b4eaf00cfa4c681c14335b5da14cb01762624", checked := Tryd.checked }
namespace Rows
def none {H : Type} : Left H := { results := [], args := [] }

/- WHAT THE LISTED PACKAGE-LEVEL VARIABLES READ AS WHEN THE CALL BEGINS. Each datum BY PROGRAM (the guide's laid-datum.mjs) off the statement by which the dump's own 'gosem.cut.vars' lays the variable. In a bare row this is a premise. The card (YtmgjbkgooekihaaDoorCards.lean) ties it to the program's text. -/
def laid_pith_crc_half32 {H : Type} : DataW H := .agg [.lit (.int .u32 0), .lit (.int .u32 498536548), .lit (.int .u32 997073096), .lit (.int .u32 651767980), .lit (.int .u32 1994146192), .lit (.int .u32 1802195444), .lit (.int .u32 1303535960), .lit (.int .u32 1342533948), .lit (.int .u32 3988292384), .lit (.int .u32 4027552580), .lit (.int .u32 3604390888), .lit (.int .u32 3412177804), .lit (.int .u32 2607071920), .lit (.int .u32 2262029012), .lit (.int .u32 2685067896), .lit (.int .u32 3183342108)]
def laid_pith_crc_half64 {H : Type} : DataW H := .agg [.lit (.int .u64 0), .lit (.int .u64 9051005139383707209), .lit (.int .u64 18102010278767414418), .lit (.int .u64 9704381199536204507), .lit (.int .u64 7257036000092981153), .lit (.int .u64 1814259000023245288), .lit (.int .u64 11493583972846619443), .lit (.int .u64 16292555063049989498), .lit (.int .u64 14514072000185962306), .lit (.int .u64 13040162471224305931), .lit (.int .u64 3628518000046490576), .lit (.int .u64 5746791986423309721), .lit (.int .u64 12527462061959317731), .lit (.int .u64 15006518869663149738), .lit (.int .u64 6263731030979658865), .lit (.int .u64 3131865515489829432)]

/-- 'pithlaw03.CrcLinear': WHATEVER THE INPUT: true; the input reads as it did. -/
def crcLinearSpec : ChangeSpec := { name := "crcLinear", fn := fun _ => fun
  | [d1, d2, d3] => { results := [.lit (.bool true)], args := [d1, d2, d3] }
  | _ => none }
def crcLinearRow : OpenClaim := { program := "ytmgjbkgooekihaadoor", sum := "8c6656d6e41930d28981af07820b4eaf00cfa4c681c14335b5da14cb01762624", func := "pith/pithlaw03.CrcLinear", spec := "crcLinear", named := ["pith/crc.half32", "pith/crc.half64"], apart := false, laid := [("pith/crc.half32", laid_pith_crc_half32), ("pith/crc.half64", laid_pith_crc_half64)] }
def CrcLinearSaid : Prop := crcLinearRow.holds Tryd.pinned (OpenSpec.ofChange crcLinearSpec)

/-- ITS FALSE NEIGHBOUR: 'it returns false'. Refute it at one input. -/
def crcLinearWrong : ChangeSpec := { name := "crcLinear", fn := fun _ => fun
  | [d1, d2, d3] => { results := [.lit (.bool false)], args := [d1, d2, d3] }
  | _ => none }
def CrcLinearWrongFalsely : Prop := crcLinearRow.holds Tryd.pinned (OpenSpec.ofChange crcLinearWrong)

/-- 'pithlaw03.CrcBursts': WHATEVER THE INPUT: true; the input reads as it did. -/
def crcBurstsSpec : ChangeSpec := { name := "crcBursts", fn := fun _ => fun
  | [d1, d2, d3] => { results := [.lit (.bool true)], args := [d1, d2, d3] }
  | _ => none }
def crcBurstsRow : OpenClaim := { program := "ytmgjbkgooekihaadoor", sum := "8c6656d6e41930d28981af07820b4eaf00cfa4c681c14335b5da14cb01762624", func := "pith/pithlaw03.CrcBursts", spec := "crcBursts", named := ["pith/crc.half32", "pith/crc.half64"], apart := false, laid := [("pith/crc.half32", laid_pith_crc_half32), ("pith/crc.half64", laid_pith_crc_half64)] }
def CrcBurstsSaid : Prop := crcBurstsRow.holds Tryd.pinned (OpenSpec.ofChange crcBurstsSpec)

/-- ITS FALSE NEIGHBOUR: 'it returns false'. Refute it at one input. -/
def crcBurstsWrong : ChangeSpec := { name := "crcBursts", fn := fun _ => fun
  | [d1, d2, d3] => { results := [.lit (.bool false)], args := [d1, d2, d3] }
  | _ => none }
def CrcBurstsWrongFalsely : Prop := crcBurstsRow.holds Tryd.pinned (OpenSpec.ofChange crcBurstsWrong)

/-- 'pithlaw03.CrcMends': WHATEVER THE INPUT: true; the input reads as it did. -/
def crcMendsSpec : ChangeSpec := { name := "crcMends", fn := fun _ => fun
  | [d] => { results := [.lit (.bool true)], args := [d] }
  | _ => none }
def crcMendsRow : OpenClaim := { program := "ytmgjbkgooekihaadoor", sum := "8c6656d6e41930d28981af07820b4eaf00cfa4c681c14335b5da14cb01762624", func := "pith/pithlaw03.CrcMends", spec := "crcMends", named := ["pith/crc.half32", "pith/crc.half64"], apart := false, laid := [("pith/crc.half32", laid_pith_crc_half32), ("pith/crc.half64", laid_pith_crc_half64)] }
def CrcMendsSaid : Prop := crcMendsRow.holds Tryd.pinned (OpenSpec.ofChange crcMendsSpec)

/-- ITS FALSE NEIGHBOUR: 'it returns false'. Refute it at one input. -/
def crcMendsWrong : ChangeSpec := { name := "crcMends", fn := fun _ => fun
  | [d] => { results := [.lit (.bool false)], args := [d] }
  | _ => none }
def CrcMendsWrongFalsely : Prop := crcMendsRow.holds Tryd.pinned (OpenSpec.ofChange crcMendsWrong)

/-- 'pithlaw03.CrcOwn': WHATEVER THE INPUT: true; the input reads as it did. -/
def crcOwnSpec : ChangeSpec := { name := "crcOwn", fn := fun _ => fun
  | [d] => { results := [.lit (.bool true)], args := [d] }
  | _ => none }
def crcOwnRow : OpenClaim := { program := "ytmgjbkgooekihaadoor", sum := "8c6656d6e41930d28981af07820b4eaf00cfa4c681c14335b5da14cb01762624", func := "pith/pithlaw03.CrcOwn", spec := "crcOwn", named := ["pith/crc.half32", "pith/crc.half64"], apart := false, laid := [("pith/crc.half32", laid_pith_crc_half32), ("pith/crc.half64", laid_pith_crc_half64)] }
def CrcOwnSaid : Prop := crcOwnRow.holds Tryd.pinned (OpenSpec.ofChange crcOwnSpec)

/-- ITS FALSE NEIGHBOUR: 'it returns false'. Refute it at one input. -/
def crcOwnWrong : ChangeSpec := { name := "crcOwn", fn := fun _ => fun
  | [d] => { results := [.lit (.bool false)], args := [d] }
  | _ => none }
def CrcOwnWrongFalsely : Prop := crcOwnRow.holds Tryd.pinned (OpenSpec.ofChange crcOwnWrong)

/-- 'pithlaw03.CrcFlips': WHATEVER THE INPUT: true; the input reads as it did. -/
def crcFlipsSpec : ChangeSpec := { name := "crcFlips", fn := fun _ => fun
  | [d1, d2, d3] => { results := [.lit (.bool true)], args := [d1, d2, d3] }
  | _ => none }
def crcFlipsRow : OpenClaim := { program := "ytmgjbkgooekihaadoor", sum := "8c6656d6e41930d28981af07820b4eaf00cfa4c681c14335b5da14cb01762624", func := "pith/pithlaw03.CrcFlips", spec := "crcFlips", named := ["pith/crc.half32", "pith/crc.half64"], apart := false, laid := [("pith/crc.half32", laid_pith_crc_half32), ("pith/crc.half64", laid_pith_crc_half64)] }
def CrcFlipsSaid : Prop := crcFlipsRow.holds Tryd.pinned (OpenSpec.ofChange crcFlipsSpec)

/-- ITS FALSE NEIGHBOUR: 'it returns false'. Refute it at one input. -/
def crcFlipsWrong : ChangeSpec := { name := "crcFlips", fn := fun _ => fun
  | [d1, d2, d3] => { results := [.lit (.bool false)], args := [d1, d2, d3] }
  | _ => none }
def CrcFlipsWrongFalsely : Prop := crcFlipsRow.holds Tryd.pinned (OpenSpec.ofChange crcFlipsWrong)

/-- 'pithlaw03.CrcPieces': WHATEVER THE INPUT: true; the input reads as it did. -/
def crcPiecesSpec : ChangeSpec := { name := "crcPieces", fn := fun _ => fun
  | [d1, d2, d3] => { results := [.lit (.bool true)], args := [d1, d2, d3] }
  | _ => none }
def crcPiecesRow : OpenClaim := { program := "ytmgjbkgooekihaadoor", sum := "8c6656d6e41930d28981af07820b4eaf00cfa4c681c14335b5da14cb01762624", func := "pith/pithlaw03.CrcPieces", spec := "crcPieces", named := ["pith/crc.half32", "pith/crc.half64"], apart := false, laid := [("pith/crc.half32", laid_pith_crc_half32), ("pith/crc.half64", laid_pith_crc_half64)] }
def CrcPiecesSaid : Prop := crcPiecesRow.holds Tryd.pinned (OpenSpec.ofChange crcPiecesSpec)

/-- ITS FALSE NEIGHBOUR: 'it returns false'. Refute it at one input. -/
def crcPiecesWrong : ChangeSpec := { name := "crcPieces", fn := fun _ => fun
  | [d1, d2, d3] => { results := [.lit (.bool false)], args := [d1, d2, d3] }
  | _ => none }
def CrcPiecesWrongFalsely : Prop := crcPiecesRow.holds Tryd.pinned (OpenSpec.ofChange crcPiecesWrong)

/- THE SECOND FORM. 'bulk': how many values and letters a reading holds, each counted each time it is reached (what is shared counts as often as it is met; a slice's spare places count too). A statement '..UptoSaid' is the law's where the arguments, and the package variables that the reading takes, are together of bulk at most 1048576: NARROWER than '..Said'. Prove '..Said' where nothing that the law and all that it calls make is longer than what came in: it says more and counts as full. Else prove '..UptoSaid'. A law counts once. -/
mutual
def uptoBulk {H : Type} : DataW H → Nat
  | .lit (.string bytes) => bytes.length + 1
  | .lit _ => 1
  | .nil => 1
  | .ptr d => uptoBulk d + 1
  | .slice elems spare => uptoBulkAll elems + uptoBulkAll spare + 1
  | .agg parts => uptoBulkAll parts + 1
  | .iface _ d => uptoBulk d + 1
  | .map entries => uptoBulkEntries entries + 1
  | .held _ => 1
def uptoBulkAll {H : Type} : List (DataW H) → Nat
  | [] => 0
  | d :: r => uptoBulk d + uptoBulkAll r
def uptoBulkEntries {H : Type} : List (Lit × DataW H) → Nat
  | [] => 0
  | x :: r => uptoBulkEntry x + uptoBulkEntries r
def uptoBulkEntry {H : Type} : Lit × DataW H → Nat
  | (.string bytes, d) => bytes.length + uptoBulk d + 1
  | (_, d) => uptoBulk d + 1
 end
def uptoSmall : (H : Type) → List (DataW H) → Bool := fun _ ds => decide (uptoBulkAll ds ≤ 1048576)
def OpenSpec.upto (s : _root_.Go.ChangeSpec) : _root_.Go.OpenSpec := { _root_.Go.OpenSpec.ofChange s with cond := some uptoSmall }

/-- 'pithlaw03.CrcLinear', WHERE WHAT IT READS IS OF BULK AT MOST 1048576: true; the input reads as it did. -/
def crcLinearUptoRow : OpenClaim := { program := "ytmgjbkgooekihaadoor", sum := "8c6656d6e41930d28981af07820b4eaf00cfa4c681c14335b5da14cb01762624", func := "pith/pithlaw03.CrcLinear", spec := "crcLinear", named := ["pith/crc.half32", "pith/crc.half64"], apart := false, laid := [("pith/crc.half32", laid_pith_crc_half32), ("pith/crc.half64", laid_pith_crc_half64)], narrowed := true }
def CrcLinearUptoSaid : Prop := crcLinearUptoRow.holds Tryd.pinned (OpenSpec.upto crcLinearSpec)

/-- 'pithlaw03.CrcBursts', WHERE WHAT IT READS IS OF BULK AT MOST 1048576: true; the input reads as it did. -/
def crcBurstsUptoRow : OpenClaim := { program := "ytmgjbkgooekihaadoor", sum := "8c6656d6e41930d28981af07820b4eaf00cfa4c681c14335b5da14cb01762624", func := "pith/pithlaw03.CrcBursts", spec := "crcBursts", named := ["pith/crc.half32", "pith/crc.half64"], apart := false, laid := [("pith/crc.half32", laid_pith_crc_half32), ("pith/crc.half64", laid_pith_crc_half64)], narrowed := true }
def CrcBurstsUptoSaid : Prop := crcBurstsUptoRow.holds Tryd.pinned (OpenSpec.upto crcBurstsSpec)

/-- 'pithlaw03.CrcMends', WHERE WHAT IT READS IS OF BULK AT MOST 1048576: true; the input reads as it did. -/
def crcMendsUptoRow : OpenClaim := { program := "ytmgjbkgooekihaadoor", sum := "8c6656d6e41930d28981af07820b4eaf00cfa4c681c14335b5da14cb01762624", func := "pith/pithlaw03.CrcMends", spec := "crcMends", named := ["pith/crc.half32", "pith/crc.half64"], apart := false, laid := [("pith/crc.half32", laid_pith_crc_half32), ("pith/crc.half64", laid_pith_crc_half64)], narrowed := true }
def CrcMendsUptoSaid : Prop := crcMendsUptoRow.holds Tryd.pinned (OpenSpec.upto crcMendsSpec)

/-- 'pithlaw03.CrcOwn', WHERE WHAT IT READS IS OF BULK AT MOST 1048576: true; the input reads as it did. -/
def crcOwnUptoRow : OpenClaim := { program := "ytmgjbkgooekihaadoor", sum := "8c6656d6e41930d28981af07820b4eaf00cfa4c681c14335b5da14cb01762624", func := "pith/pithlaw03.CrcOwn", spec := "crcOwn", named := ["pith/crc.half32", "pith/crc.half64"], apart := false, laid := [("pith/crc.half32", laid_pith_crc_half32), ("pith/crc.half64", laid_pith_crc_half64)], narrowed := true }
def CrcOwnUptoSaid : Prop := crcOwnUptoRow.holds Tryd.pinned (OpenSpec.upto crcOwnSpec)

/-- 'pithlaw03.CrcFlips', WHERE WHAT IT READS IS OF BULK AT MOST 1048576: true; the input reads as it did. -/
def crcFlipsUptoRow : OpenClaim := { program := "ytmgjbkgooekihaadoor", sum := "8c6656d6e41930d28981af07820b4eaf00cfa4c681c14335b5da14cb01762624", func := "pith/pithlaw03.CrcFlips", spec := "crcFlips", named := ["pith/crc.half32", "pith/crc.half64"], apart := false, laid := [("pith/crc.half32", laid_pith_crc_half32), ("pith/crc.half64", laid_pith_crc_half64)], narrowed := true }
def CrcFlipsUptoSaid : Prop := crcFlipsUptoRow.holds Tryd.pinned (OpenSpec.upto crcFlipsSpec)

/-- 'pithlaw03.CrcPieces', WHERE WHAT IT READS IS OF BULK AT MOST 1048576: true; the input reads as it did. -/
def crcPiecesUptoRow : OpenClaim := { program := "ytmgjbkgooekihaadoor", sum := "8c6656d6e41930d28981af07820b4eaf00cfa4c681c14335b5da14cb01762624", func := "pith/pithlaw03.CrcPieces", spec := "crcPieces", named := ["pith/crc.half32", "pith/crc.half64"], apart := false, laid := [("pith/crc.half32", laid_pith_crc_half32), ("pith/crc.half64", laid_pith_crc_half64)], narrowed := true }
def CrcPiecesUptoSaid : Prop := crcPiecesUptoRow.holds Tryd.pinned (OpenSpec.upto crcPiecesSpec)

end Rows
end Go.Proofs.YtmgjbkgooekihaaDoor
