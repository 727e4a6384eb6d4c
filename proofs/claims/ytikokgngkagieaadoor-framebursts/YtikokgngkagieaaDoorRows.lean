/-
  NARROWER THAN 'FOR EVERY INPUT', by the rows' own cells (each row's printed sentence says how): FrameBack: laid · FrameBursts: laid · FrameLays: laid · FrameReads: laid.
  DERIVED. THE GIVEN ROWS OF THIS SEAT. 4 by the template 'for every input the law returns true; each argument reads behind the call as it read before'; 0 by the template 'total and deterministic' (their statements: YtikokgngkagieaaDoorTotals.lean).
  GIVEN WITH THE SEED: the statements are not yours to turn. If you find one false, say at which input.
  Laid BY PROGRAM, IN A SANDBOX (cutbox-rows.mjs): the forced cells as the released guide's own fill.sh prints them over the translation 827263f4ea644a5a… (all of the seat's roots in one cut). By AI agents, Wed Nov 11 2026. No macro, syntax, notation, axiom, sorry.
-/
import Derived.Test.YtikokgngkagieaaDoorChecked
import GoSem.Claim
import GoSem.ClaimJoined
import GoSem.ClaimMapViews
import Derived.JoinedTies
import Derived.KernelRfl
namespace Go.Proofs.YtikokgngkagieaaDoor
/- THE CELL 'sum', in the pinned program and in every row, IS THE sha256 OF THE DUMP (.gsa) THAT YtikokgngkagieaaDoorProg.lean LOADS. Nothing in Lean hashes anything: it is a label: what it is worth is what the hold of that sum in a sandbox is worth. -/
noncomputable def Tryd.pinned : Pinned := { name := "ytikokgngkagieaadoor", sum := "827263f4ea644a5a618a4c744458d57b2545af0c133305020cccb4cc585ba365", checked := Tryd.checked }
namespace Rows
def none {H : Type} : Left H := { results := [], args := [] }

/- WHAT THE LISTED PACKAGE-LEVEL VARIABLES READ AS WHEN THE CALL BEGINS. Each datum BY PROGRAM (the guide's laid-datum.mjs) off the statement by which the dump's own 'gosem.cut.vars' lays the variable. In a bare row this is a premise. The card (YtikokgngkagieaaDoorCards.lean) ties it to the program's text. -/
def laid_pith_crc_half32 {H : Type} : DataW H := .agg [.lit (.int .u32 0), .lit (.int .u32 498536548), .lit (.int .u32 997073096), .lit (.int .u32 651767980), .lit (.int .u32 1994146192), .lit (.int .u32 1802195444), .lit (.int .u32 1303535960), .lit (.int .u32 1342533948), .lit (.int .u32 3988292384), .lit (.int .u32 4027552580), .lit (.int .u32 3604390888), .lit (.int .u32 3412177804), .lit (.int .u32 2607071920), .lit (.int .u32 2262029012), .lit (.int .u32 2685067896), .lit (.int .u32 3183342108)]
def laid_pith_sha_first {H : Type} : DataW H := .agg [.lit (.int .u32 1779033703), .lit (.int .u32 3144134277), .lit (.int .u32 1013904242), .lit (.int .u32 2773480762), .lit (.int .u32 1359893119), .lit (.int .u32 2600822924), .lit (.int .u32 528734635), .lit (.int .u32 1541459225)]
def laid_pith_frame_headMark {H : Type} : DataW H := .agg [.lit (.int .u8 253), .lit (.int .u8 55), .lit (.int .u8 122), .lit (.int .u8 88), .lit (.int .u8 90), .lit (.int .u8 0)]
def laid_pith_frame_footMark {H : Type} : DataW H := .agg [.lit (.int .u8 89), .lit (.int .u8 90)]

/-- 'pithlaw24.FrameBack': WHATEVER THE INPUT: true; the input reads as it did. -/
def frameBackSpec : ChangeSpec := { name := "frameBack", fn := fun _ => fun
  | [d1, d2, d3] => { results := [.lit (.bool true)], args := [d1, d2, d3] }
  | _ => none }
def frameBackRow : OpenClaim := { program := "ytikokgngkagieaadoor", sum := "827263f4ea644a5a618a4c744458d57b2545af0c133305020cccb4cc585ba365", func := "pith/pithlaw24.FrameBack", spec := "frameBack", named := ["pith/frame.headMark", "pith/sha.first", "pith/crc.half32", "pith/frame.footMark"], apart := false, laid := [("pith/crc.half32", laid_pith_crc_half32), ("pith/sha.first", laid_pith_sha_first), ("pith/frame.headMark", laid_pith_frame_headMark), ("pith/frame.footMark", laid_pith_frame_footMark)] }
def FrameBackSaid : Prop := frameBackRow.holds Tryd.pinned (OpenSpec.ofChange frameBackSpec)

/-- ITS FALSE NEIGHBOUR: 'it returns false'. Refute it at one input. -/
def frameBackWrong : ChangeSpec := { name := "frameBack", fn := fun _ => fun
  | [d1, d2, d3] => { results := [.lit (.bool false)], args := [d1, d2, d3] }
  | _ => none }
def FrameBackWrongFalsely : Prop := frameBackRow.holds Tryd.pinned (OpenSpec.ofChange frameBackWrong)

/-- 'pithlaw24.FrameBursts': WHATEVER THE INPUT: true; the input reads as it did. -/
def frameBurstsSpec : ChangeSpec := { name := "frameBursts", fn := fun _ => fun
  | [d] => { results := [.lit (.bool true)], args := [d] }
  | _ => none }
def frameBurstsRow : OpenClaim := { program := "ytikokgngkagieaadoor", sum := "827263f4ea644a5a618a4c744458d57b2545af0c133305020cccb4cc585ba365", func := "pith/pithlaw24.FrameBursts", spec := "frameBursts", named := ["pith/frame.headMark", "pith/sha.first", "pith/crc.half32", "pith/frame.footMark"], apart := false, laid := [("pith/crc.half32", laid_pith_crc_half32), ("pith/sha.first", laid_pith_sha_first), ("pith/frame.headMark", laid_pith_frame_headMark), ("pith/frame.footMark", laid_pith_frame_footMark)] }
def FrameBurstsSaid : Prop := frameBurstsRow.holds Tryd.pinned (OpenSpec.ofChange frameBurstsSpec)

/-- ITS FALSE NEIGHBOUR: 'it returns false'. Refute it at one input. -/
def frameBurstsWrong : ChangeSpec := { name := "frameBursts", fn := fun _ => fun
  | [d] => { results := [.lit (.bool false)], args := [d] }
  | _ => none }
def FrameBurstsWrongFalsely : Prop := frameBurstsRow.holds Tryd.pinned (OpenSpec.ofChange frameBurstsWrong)

/-- 'pithlaw24.FrameLays': WHATEVER THE INPUT: true; the input reads as it did. -/
def frameLaysSpec : ChangeSpec := { name := "frameLays", fn := fun _ => fun
  | [d1, d2] => { results := [.lit (.bool true)], args := [d1, d2] }
  | _ => none }
def frameLaysRow : OpenClaim := { program := "ytikokgngkagieaadoor", sum := "827263f4ea644a5a618a4c744458d57b2545af0c133305020cccb4cc585ba365", func := "pith/pithlaw24.FrameLays", spec := "frameLays", named := ["pith/frame.headMark", "pith/sha.first", "pith/crc.half32", "pith/frame.footMark"], apart := false, laid := [("pith/crc.half32", laid_pith_crc_half32), ("pith/sha.first", laid_pith_sha_first), ("pith/frame.headMark", laid_pith_frame_headMark), ("pith/frame.footMark", laid_pith_frame_footMark)] }
def FrameLaysSaid : Prop := frameLaysRow.holds Tryd.pinned (OpenSpec.ofChange frameLaysSpec)

/-- ITS FALSE NEIGHBOUR: 'it returns false'. Refute it at one input. -/
def frameLaysWrong : ChangeSpec := { name := "frameLays", fn := fun _ => fun
  | [d1, d2] => { results := [.lit (.bool false)], args := [d1, d2] }
  | _ => none }
def FrameLaysWrongFalsely : Prop := frameLaysRow.holds Tryd.pinned (OpenSpec.ofChange frameLaysWrong)

/-- 'pithlaw24.FrameReads': WHATEVER THE INPUT: true; the input reads as it did. -/
def frameReadsSpec : ChangeSpec := { name := "frameReads", fn := fun _ => fun
  | [d] => { results := [.lit (.bool true)], args := [d] }
  | _ => none }
def frameReadsRow : OpenClaim := { program := "ytikokgngkagieaadoor", sum := "827263f4ea644a5a618a4c744458d57b2545af0c133305020cccb4cc585ba365", func := "pith/pithlaw24.FrameReads", spec := "frameReads", named := ["pith/frame.headMark", "pith/crc.half32", "pith/sha.first", "pith/frame.footMark"], apart := false, laid := [("pith/crc.half32", laid_pith_crc_half32), ("pith/sha.first", laid_pith_sha_first), ("pith/frame.headMark", laid_pith_frame_headMark), ("pith/frame.footMark", laid_pith_frame_footMark)] }
def FrameReadsSaid : Prop := frameReadsRow.holds Tryd.pinned (OpenSpec.ofChange frameReadsSpec)

/-- ITS FALSE NEIGHBOUR: 'it returns false'. Refute it at one input. -/
def frameReadsWrong : ChangeSpec := { name := "frameReads", fn := fun _ => fun
  | [d] => { results := [.lit (.bool false)], args := [d] }
  | _ => none }
def FrameReadsWrongFalsely : Prop := frameReadsRow.holds Tryd.pinned (OpenSpec.ofChange frameReadsWrong)

/- THE SECOND FORM. 'bulk': how many values and letters a reading holds, each counted each time it is reached (what is shared counts as often as it is met; a slice's spare places count too). A statement '..UptoSaid' is the law's where the arguments, and the package variables that the reading takes, are together of bulk at most 1048576: NARROWER than '..Said'. Prove '..Said' where nothing that the law and all that it calls make is longer than what came in: it says more and counts as full. Else prove '..UptoSaid'. A law counts once. -/
mutual
def uptoBulk {H : Type} : DataW H → Nat
  | .lit (.string bytes) => bytes.length + 1
  | .lit _ => 1
  | .nil => 1
  | .ptr d => uptoBulk d + 1
  | .slice elems spare => uptoBulkAll elems + uptoBulkAll spare + 1
  | .agg parts => uptoBulkAll parts + 1
  | .iface _ d => uptoBulk d + 1
  | .map entries => uptoBulkEntries entries + 1
  | .held _ => 1
def uptoBulkAll {H : Type} : List (DataW H) → Nat
  | [] => 0
  | d :: r => uptoBulk d + uptoBulkAll r
def uptoBulkEntries {H : Type} : List (Lit × DataW H) → Nat
  | [] => 0
  | x :: r => uptoBulkEntry x + uptoBulkEntries r
def uptoBulkEntry {H : Type} : Lit × DataW H → Nat
  | (.string bytes, d) => bytes.length + uptoBulk d + 1
  | (_, d) => uptoBulk d + 1
 end
def uptoSmall : (H : Type) → List (DataW H) → Bool := fun _ ds => decide (uptoBulkAll ds ≤ 1048576)
def OpenSpec.upto (s : _root_.Go.ChangeSpec) : _root_.Go.OpenSpec := { _root_.Go.OpenSpec.ofChange s with cond := some uptoSmall }

/-- 'pithlaw24.FrameBack', WHERE WHAT IT READS IS OF BULK AT MOST 1048576: true; the input reads as it did. -/
def frameBackUptoRow : OpenClaim := { program := "ytikokgngkagieaadoor", sum := "827263f4ea644a5a618a4c744458d57b2545af0c133305020cccb4cc585ba365", func := "pith/pithlaw24.FrameBack", spec := "frameBack", named := ["pith/frame.headMark", "pith/sha.first", "pith/crc.half32", "pith/frame.footMark"], apart := false, laid := [("pith/crc.half32", laid_pith_crc_half32), ("pith/sha.first", laid_pith_sha_first), ("pith/frame.headMark", laid_pith_frame_headMark), ("pith/frame.footMark", laid_pith_frame_footMark)], narrowed := true }
def FrameBackUptoSaid : Prop := frameBackUptoRow.holds Tryd.pinned (OpenSpec.upto frameBackSpec)

/-- 'pithlaw24.FrameBursts', WHERE WHAT IT READS IS OF BULK AT MOST 1048576: true; the input reads as it did. -/
def frameBurstsUptoRow : OpenClaim := { program := "ytikokgngkagieaadoor", sum := "827263f4ea644a5a618a4c744458d57b2545af0c133305020cccb4cc585ba365", func := "pith/pithlaw24.FrameBursts", spec := "frameBursts", named := ["pith/frame.headMark", "pith/sha.first", "pith/crc.half32", "pith/frame.footMark"], apart := false, laid := [("pith/crc.half32", laid_pith_crc_half32), ("pith/sha.first", laid_pith_sha_first), ("pith/frame.headMark", laid_pith_frame_headMark), ("pith/frame.footMark", laid_pith_frame_footMark)], narrowed := true }
def FrameBurstsUptoSaid : Prop := frameBurstsUptoRow.holds Tryd.pinned (OpenSpec.upto frameBurstsSpec)

/-- 'pithlaw24.FrameLays', WHERE WHAT IT READS IS OF BULK AT MOST 1048576: true; the input reads as it did. -/
def frameLaysUptoRow : OpenClaim := { program := "ytikokgngkagieaadoor", sum := "827263f4ea644a5a618a4c744458d57b2545af0c133305020cccb4cc585ba365", func := "pith/pithlaw24.FrameLays", spec := "frameLays", named := ["pith/frame.headMark", "pith/sha.first", "pith/crc.half32", "pith/frame.footMark"], apart := false, laid := [("pith/crc.half32", laid_pith_crc_half32), ("pith/sha.first", laid_pith_sha_first), ("pith/frame.headMark", laid_pith_frame_headMark), ("pith/frame.footMark", laid_pith_frame_footMark)], narrowed := true }
def FrameLaysUptoSaid : Prop := frameLaysUptoRow.holds Tryd.pinned (OpenSpec.upto frameLaysSpec)

/-- 'pithlaw24.FrameReads', WHERE WHAT IT READS IS OF BULK AT MOST 1048576: true; the input reads as it did. -/
def frameReadsUptoRow : OpenClaim := { program := "ytikokgngkagieaadoor", sum := "827263f4ea644a5a618a4c744458d57b2545af0c133305020cccb4cc585ba365", func := "pith/pithlaw24.FrameReads", spec := "frameReads", named := ["pith/frame.headMark", "pith/crc.half32", "pith/sha.first", "pith/frame.footMark"], apart := false, laid := [("pith/crc.half32", laid_pith_crc_half32), ("pith/sha.first", laid_pith_sha_first), ("pith/frame.headMark", laid_pith_frame_headMark), ("pith/frame.footMark", laid_pith_frame_footMark)], narrowed := true }
def FrameReadsUptoSaid : Prop := frameReadsUptoRow.holds Tryd.pinned (OpenSpec.upto frameReadsSpec)

end Rows
end Go.Proofs.YtikokgngkagieaaDoor
