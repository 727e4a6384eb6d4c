/-
  NARROWER THAN 'FOR EVERY INPUT', by the rows' own cells (each row's printed sentence says how): HeadBack: laid · HeadAgain: laid · HeadBursts: laid · HeadPuts: laid · HeadGets: laid.
  DERIVED. THE GIVEN ROWS OF THIS SEAT. 5 by the template 'for every input the law returns true; each argument reads behind the call as it read before'; 0 by the template 'total and deterministic' (their statements: YtkncbanodpfccaaDoorTotals.lean).
  GIVEN WITH THE SEED: the statements are not yours to turn. If you find one false, say at which input.
  Laid BY PROGRAM, IN A SANDBOX (cutbox-rows.mjs): the forced cells as the released guide's own fill.sh prints them over the translation 85fce37e3b0b1929… (all of the seat's roots in one cut). By AI agents, Wed Nov 11 2026. No macro, syntax, notation, axiom, sorry.
-/
import Derived.Test.YtkncbanodpfccaaDoorChecked
import GoSem.Claim
import GoSem.ClaimJoined
import GoSem.ClaimMapViews
import Derived.JoinedTies
import Derived.KernelRfl
namespace Go.Proofs.YtkncbanodpfccaaDoor
/- THE CELL 'sum', in the pinned program and in every row, IS THE sha256 OF THE DUMP (.gsa) THAT YtkncbanodpfccaaDoorProg.lean LOADS. Nothing in Lean hashes anything: it is a label: what it is worth is what the hold of that sum in a sandbox is worth. -/
noncomputable def Tryd.pinned : Pinned := { name := "ytkncbanodpfccaadoor", sum := "85fce37e3b0b1929c4365cd11351d32a3e0b4a19308e71a7d49e4e76722279b4", checked := Tryd.checked }
namespace Rows
def none {H : Type} : Left H := { results := [], args := [] }

/- WHAT THE LISTED PACKAGE-LEVEL VARIABLES READ AS WHEN THE CALL BEGINS. Each datum BY PROGRAM (the guide's laid-datum.mjs) off the statement by which the dump's own 'gosem.cut.vars' lays the variable. In a bare row this is a premise. The card (YtkncbanodpfccaaDoorCards.lean) ties it to the program's text. -/
def laid_pith_crc_half32 {H : Type} : DataW H := .agg [.lit (.int .u32 0), .lit (.int .u32 498536548), .lit (.int .u32 997073096), .lit (.int .u32 651767980), .lit (.int .u32 1994146192), .lit (.int .u32 1802195444), .lit (.int .u32 1303535960), .lit (.int .u32 1342533948), .lit (.int .u32 3988292384), .lit (.int .u32 4027552580), .lit (.int .u32 3604390888), .lit (.int .u32 3412177804), .lit (.int .u32 2607071920), .lit (.int .u32 2262029012), .lit (.int .u32 2685067896), .lit (.int .u32 3183342108)]
def laid_pith_varint_bounds {H : Type} : DataW H := .agg [.lit (.int .u64 128), .lit (.int .u64 16384), .lit (.int .u64 2097152), .lit (.int .u64 268435456), .lit (.int .u64 34359738368), .lit (.int .u64 4398046511104), .lit (.int .u64 562949953421312), .lit (.int .u64 72057594037927936)]

/-- 'pithlaw21.HeadBack': WHATEVER THE INPUT: true; the input reads as it did. -/
def headBackSpec : ChangeSpec := { name := "headBack", fn := fun _ => fun
  | [d1, d2, d3] => { results := [.lit (.bool true)], args := [d1, d2, d3] }
  | _ => none }
def headBackRow : OpenClaim := { program := "ytkncbanodpfccaadoor", sum := "85fce37e3b0b1929c4365cd11351d32a3e0b4a19308e71a7d49e4e76722279b4", func := "pith/pithlaw21.HeadBack", spec := "headBack", unfollowed := true, recurses := true, named := ["pith/varint.bounds", "pith/crc.half32"], apart := false, laid := [("pith/crc.half32", laid_pith_crc_half32), ("pith/varint.bounds", laid_pith_varint_bounds)] }
def HeadBackSaid : Prop := headBackRow.holds Tryd.pinned (OpenSpec.ofChange headBackSpec)

/-- ITS FALSE NEIGHBOUR: 'it returns false'. Refute it at one input. -/
def headBackWrong : ChangeSpec := { name := "headBack", fn := fun _ => fun
  | [d1, d2, d3] => { results := [.lit (.bool false)], args := [d1, d2, d3] }
  | _ => none }
def HeadBackWrongFalsely : Prop := headBackRow.holds Tryd.pinned (OpenSpec.ofChange headBackWrong)

/-- 'pithlaw21.HeadAgain': WHATEVER THE INPUT: true; the input reads as it did. -/
def headAgainSpec : ChangeSpec := { name := "headAgain", fn := fun _ => fun
  | [d] => { results := [.lit (.bool true)], args := [d] }
  | _ => none }
def headAgainRow : OpenClaim := { program := "ytkncbanodpfccaadoor", sum := "85fce37e3b0b1929c4365cd11351d32a3e0b4a19308e71a7d49e4e76722279b4", func := "pith/pithlaw21.HeadAgain", spec := "headAgain", unfollowed := true, recurses := true, named := ["pith/crc.half32", "pith/varint.bounds"], apart := false, laid := [("pith/crc.half32", laid_pith_crc_half32), ("pith/varint.bounds", laid_pith_varint_bounds)] }
def HeadAgainSaid : Prop := headAgainRow.holds Tryd.pinned (OpenSpec.ofChange headAgainSpec)

/-- ITS FALSE NEIGHBOUR: 'it returns false'. Refute it at one input. -/
def headAgainWrong : ChangeSpec := { name := "headAgain", fn := fun _ => fun
  | [d] => { results := [.lit (.bool false)], args := [d] }
  | _ => none }
def HeadAgainWrongFalsely : Prop := headAgainRow.holds Tryd.pinned (OpenSpec.ofChange headAgainWrong)

/-- 'pithlaw21.HeadBursts': WHATEVER THE INPUT: true; the input reads as it did. -/
def headBurstsSpec : ChangeSpec := { name := "headBursts", fn := fun _ => fun
  | [d] => { results := [.lit (.bool true)], args := [d] }
  | _ => none }
def headBurstsRow : OpenClaim := { program := "ytkncbanodpfccaadoor", sum := "85fce37e3b0b1929c4365cd11351d32a3e0b4a19308e71a7d49e4e76722279b4", func := "pith/pithlaw21.HeadBursts", spec := "headBursts", unfollowed := true, recurses := true, named := ["pith/varint.bounds", "pith/crc.half32"], apart := false, laid := [("pith/crc.half32", laid_pith_crc_half32), ("pith/varint.bounds", laid_pith_varint_bounds)] }
def HeadBurstsSaid : Prop := headBurstsRow.holds Tryd.pinned (OpenSpec.ofChange headBurstsSpec)

/-- ITS FALSE NEIGHBOUR: 'it returns false'. Refute it at one input. -/
def headBurstsWrong : ChangeSpec := { name := "headBursts", fn := fun _ => fun
  | [d] => { results := [.lit (.bool false)], args := [d] }
  | _ => none }
def HeadBurstsWrongFalsely : Prop := headBurstsRow.holds Tryd.pinned (OpenSpec.ofChange headBurstsWrong)

/-- 'pithlaw21.HeadPuts': WHATEVER THE INPUT: true; the input reads as it did. -/
def headPutsSpec : ChangeSpec := { name := "headPuts", fn := fun _ => fun
  | [d1, d2] => { results := [.lit (.bool true)], args := [d1, d2] }
  | _ => none }
def headPutsRow : OpenClaim := { program := "ytkncbanodpfccaadoor", sum := "85fce37e3b0b1929c4365cd11351d32a3e0b4a19308e71a7d49e4e76722279b4", func := "pith/pithlaw21.HeadPuts", spec := "headPuts", unfollowed := true, recurses := true, named := ["pith/varint.bounds", "pith/crc.half32"], apart := false, laid := [("pith/crc.half32", laid_pith_crc_half32), ("pith/varint.bounds", laid_pith_varint_bounds)] }
def HeadPutsSaid : Prop := headPutsRow.holds Tryd.pinned (OpenSpec.ofChange headPutsSpec)

/-- ITS FALSE NEIGHBOUR: 'it returns false'. Refute it at one input. -/
def headPutsWrong : ChangeSpec := { name := "headPuts", fn := fun _ => fun
  | [d1, d2] => { results := [.lit (.bool false)], args := [d1, d2] }
  | _ => none }
def HeadPutsWrongFalsely : Prop := headPutsRow.holds Tryd.pinned (OpenSpec.ofChange headPutsWrong)

/-- 'pithlaw21.HeadGets': WHATEVER THE INPUT: true; the input reads as it did. -/
def headGetsSpec : ChangeSpec := { name := "headGets", fn := fun _ => fun
  | [d] => { results := [.lit (.bool true)], args := [d] }
  | _ => none }
def headGetsRow : OpenClaim := { program := "ytkncbanodpfccaadoor", sum := "85fce37e3b0b1929c4365cd11351d32a3e0b4a19308e71a7d49e4e76722279b4", func := "pith/pithlaw21.HeadGets", spec := "headGets", unfollowed := true, recurses := true, named := ["pith/crc.half32", "pith/varint.bounds"], apart := false, laid := [("pith/crc.half32", laid_pith_crc_half32), ("pith/varint.bounds", laid_pith_varint_bounds)] }
def HeadGetsSaid : Prop := headGetsRow.holds Tryd.pinned (OpenSpec.ofChange headGetsSpec)

/-- ITS FALSE NEIGHBOUR: 'it returns false'. Refute it at one input. -/
def headGetsWrong : ChangeSpec := { name := "headGets", fn := fun _ => fun
  | [d] => { results := [.lit (.bool false)], args := [d] }
  | _ => none }
def HeadGetsWrongFalsely : Prop := headGetsRow.holds Tryd.pinned (OpenSpec.ofChange headGetsWrong)

/- THE SECOND FORM. 'bulk': how many values and letters a reading holds, each counted each time it is reached (what is shared counts as often as it is met; a slice's spare places count too). A statement '..UptoSaid' is the law's where the arguments, and the package variables that the reading takes, are together of bulk at most 1048576: NARROWER than '..Said'. Prove '..Said' where nothing that the law and all that it calls make is longer than what came in: it says more and counts as full. Else prove '..UptoSaid'. A law counts once. -/
mutual
def uptoBulk {H : Type} : DataW H → Nat
  | .lit (.string bytes) => bytes.length + 1
  | .lit _ => 1
  | .nil => 1
  | .ptr d => uptoBulk d + 1
  | .slice elems spare => uptoBulkAll elems + uptoBulkAll spare + 1
  | .agg parts => uptoBulkAll parts + 1
  | .iface _ d => uptoBulk d + 1
  | .map entries => uptoBulkEntries entries + 1
  | .held _ => 1
def uptoBulkAll {H : Type} : List (DataW H) → Nat
  | [] => 0
  | d :: r => uptoBulk d + uptoBulkAll r
def uptoBulkEntries {H : Type} : List (Lit × DataW H) → Nat
  | [] => 0
  | x :: r => uptoBulkEntry x + uptoBulkEntries r
def uptoBulkEntry {H : Type} : Lit × DataW H → Nat
  | (.string bytes, d) => bytes.length + uptoBulk d + 1
  | (_, d) => uptoBulk d + 1
 end
def uptoSmall : (H : Type) → List (DataW H) → Bool := fun _ ds => decide (uptoBulkAll ds ≤ 1048576)
def OpenSpec.upto (s : _root_.Go.ChangeSpec) : _root_.Go.OpenSpec := { _root_.Go.OpenSpec.ofChange s with cond := some uptoSmall }

/-- 'pithlaw21.HeadBack', WHERE WHAT IT READS IS OF BULK AT MOST 1048576: true; the input reads as it did. -/
def headBackUptoRow : OpenClaim := { program := "ytkncbanodpfccaadoor", sum := "85fce37e3b0b1929c4365cd11351d32a3e0b4a19308e71a7d49e4e76722279b4", func := "pith/pithlaw21.HeadBack", spec := "headBack", unfollowed := true, recurses := true, named := ["pith/varint.bounds", "pith/crc.half32"], apart := false, laid := [("pith/crc.half32", laid_pith_crc_half32), ("pith/varint.bounds", laid_pith_varint_bounds)], narrowed := true }
def HeadBackUptoSaid : Prop := headBackUptoRow.holds Tryd.pinned (OpenSpec.upto headBackSpec)

/-- 'pithlaw21.HeadAgain', WHERE WHAT IT READS IS OF BULK AT MOST 1048576: true; the input reads as it did. -/
def headAgainUptoRow : OpenClaim := { program := "ytkncbanodpfccaadoor", sum := "85fce37e3b0b1929c4365cd11351d32a3e0b4a19308e71a7d49e4e76722279b4", func := "pith/pithlaw21.HeadAgain", spec := "headAgain", unfollowed := true, recurses := true, named := ["pith/crc.half32", "pith/varint.bounds"], apart := false, laid := [("pith/crc.half32", laid_pith_crc_half32), ("pith/varint.bounds", laid_pith_varint_bounds)], narrowed := true }
def HeadAgainUptoSaid : Prop := headAgainUptoRow.holds Tryd.pinned (OpenSpec.upto headAgainSpec)

/-- 'pithlaw21.HeadBursts', WHERE WHAT IT READS IS OF BULK AT MOST 1048576: true; the input reads as it did. -/
def headBurstsUptoRow : OpenClaim := { program := "ytkncbanodpfccaadoor", sum := "85fce37e3b0b1929c4365cd11351d32a3e0b4a19308e71a7d49e4e76722279b4", func := "pith/pithlaw21.HeadBursts", spec := "headBursts", unfollowed := true, recurses := true, named := ["pith/varint.bounds", "pith/crc.half32"], apart := false, laid := [("pith/crc.half32", laid_pith_crc_half32), ("pith/varint.bounds", laid_pith_varint_bounds)], narrowed := true }
def HeadBurstsUptoSaid : Prop := headBurstsUptoRow.holds Tryd.pinned (OpenSpec.upto headBurstsSpec)

/-- 'pithlaw21.HeadPuts', WHERE WHAT IT READS IS OF BULK AT MOST 1048576: true; the input reads as it did. -/
def headPutsUptoRow : OpenClaim := { program := "ytkncbanodpfccaadoor", sum := "85fce37e3b0b1929c4365cd11351d32a3e0b4a19308e71a7d49e4e76722279b4", func := "pith/pithlaw21.HeadPuts", spec := "headPuts", unfollowed := true, recurses := true, named := ["pith/varint.bounds", "pith/crc.half32"], apart := false, laid := [("pith/crc.half32", laid_pith_crc_half32), ("pith/varint.bounds", laid_pith_varint_bounds)], narrowed := true }
def HeadPutsUptoSaid : Prop := headPutsUptoRow.holds Tryd.pinned (OpenSpec.upto headPutsSpec)

/-- 'pithlaw21.HeadGets', WHERE WHAT IT READS IS OF BULK AT MOST 1048576: true; the input reads as it did. -/
def headGetsUptoRow : OpenClaim := { program := "ytkncbanodpfccaadoor", sum := "85fce37e3b0b1929c4365cd11351d32a3e0b4a19308e71a7d49e4e76722279b4", func := "pith/pithlaw21.HeadGets", spec := "headGets", unfollowed := true, recurses := true, named := ["pith/crc.half32", "pith/varint.bounds"], apart := false, laid := [("pith/crc.half32", laid_pith_crc_half32), ("pith/varint.bounds", laid_pith_varint_bounds)], narrowed := true }
def HeadGetsUptoSaid : Prop := headGetsUptoRow.holds Tryd.pinned (OpenSpec.upto headGetsSpec)

end Rows
end Go.Proofs.YtkncbanodpfccaaDoor
