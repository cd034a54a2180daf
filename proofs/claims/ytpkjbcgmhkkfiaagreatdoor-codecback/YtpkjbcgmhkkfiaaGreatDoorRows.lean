/-
  NARROWER THAN 'FOR EVERY INPUT', by the rows' own cells (each row's printed sentence says how): CodecEncodes: laid · CodecBack: laid · CodecOnly: laid · CodecCuts: laid.
  DERIVED. THE GIVEN ROWS OF THIS SEAT. 4 by the template 'for every input the law returns true; each argument reads behind the call as it read before'; 0 by the template 'total and deterministic' (their statements: YtpkjbcgmhkkfiaaGreatDoorTotals.lean).
  GIVEN WITH THE SEED: the statements are not yours to turn. If you find one false, say at which input.
  Laid BY PROGRAM, IN A SANDBOX (cutbox-rows.mjs): the forced cells as the released guide's own fill.sh prints them over the translation 1ebcf15cb2ec40fa… (all of the seat's roots in one cut). By AI agents, Wed Nov 11 2026. No macro, syntax, notation, axiom, sorry.
-/
import Derived.Test.YtpkjbcgmhkkfiaaGreatDoorChecked
import GoSem.Claim
import GoSem.ClaimJoined
import GoSem.ClaimMapViews
import Derived.JoinedTies
import Derived.KernelRfl
namespace Go.Proofs.YtpkjbcgmhkkfiaaGreatDoor
/- THE CELL 'sum', in the pinned program and in every row, IS THE sha256 OF THE DUMP (.gsa) THAT YtpkjbcgmhkkfiaaGreatDoorProg.lean LOADS. Nothing in Lean hashes anything: it is a label: what it is worth is what the hold of that sum in a sandbox is worth. -/
noncomputable def Tryz.pinned : Pinned := { name := "ytpkjbcgmhkkfiaagreatdoor", sum := "1ebcf15cb2ec40fab4347ceeab37b50e03a07a83f3e2b63239ffe811ceae7f23", checked := Tryz.checked }
namespace Rows
def none {H : Type} : Left H := { results := [], args := [] }

/- WHAT THE LISTED PACKAGE-LEVEL VARIABLES READ AS WHEN THE CALL BEGINS. Each datum BY PROGRAM (the guide's laid-datum.mjs) off the statement by which the dump's own 'gosem.cut.vars' lays the variable. In a bare row this is a premise. The card (YtpkjbcgmhkkfiaaGreatDoorCards.lean) ties it to the program's text. -/
def laid_errors_errorType {H : Type} : DataW H := .iface "internal/reflectlite.rtype" (.agg [.ptr (.lit (.string [101, 114, 114, 111, 114]))])
def laid_newel_crc_halves {H : Type} : DataW H := .agg [.lit (.int .u16 0), .lit (.int .u16 4129), .lit (.int .u16 8258), .lit (.int .u16 12387), .lit (.int .u16 16516), .lit (.int .u16 20645), .lit (.int .u16 24774), .lit (.int .u16 28903), .lit (.int .u16 33032), .lit (.int .u16 37161), .lit (.int .u16 41290), .lit (.int .u16 45419), .lit (.int .u16 49548), .lit (.int .u16 53677), .lit (.int .u16 57806), .lit (.int .u16 61935)]
def laid_newel_codec_errLength {H : Type} : DataW H := .iface "*errors.errorString" (.ptr (.agg [.lit (.string [110, 111, 116, 32, 97, 115, 32, 109, 97, 110, 121, 32, 110, 117, 109, 98, 101, 114, 115, 32, 97, 115, 32, 116, 104, 101, 32, 114, 111, 119, 32, 116, 97, 107, 101, 115])]))
def laid_newel_codec_errMark {H : Type} : DataW H := .iface "*errors.errorString" (.ptr (.agg [.lit (.string [97, 32, 109, 97, 114, 107, 32, 116, 104, 97, 116, 32, 105, 115, 32, 110, 111, 110, 101])]))

/-- 'newellaw11.CodecEncodes': WHATEVER THE INPUT: true; the input reads as it did. -/
def codecEncodesSpec : ChangeSpec := { name := "codecEncodes", fn := fun _ => fun
  | [d] => { results := [.lit (.bool true)], args := [d] }
  | _ => none }
def codecEncodesRow : OpenClaim := { program := "ytpkjbcgmhkkfiaagreatdoor", sum := "1ebcf15cb2ec40fab4347ceeab37b50e03a07a83f3e2b63239ffe811ceae7f23", func := "newel/newellaw11.CodecEncodes", spec := "codecEncodes", inPlace := ["internal/reflectlite.TypeOf", "internal/reflectlite.ValueOf", "(internal/reflectlite.Value).Type", "(internal/reflectlite.Value).IsNil", "(internal/reflectlite.Value).Elem", "(internal/reflectlite.Value).Set"], unfollowed := true, recurses := true, named := ["newel/crc.halves", "newel/codec.errMark", "newel/codec.errLength", "errors.errorType"], apart := false, laid := [("errors.errorType", laid_errors_errorType), ("newel/crc.halves", laid_newel_crc_halves), ("newel/codec.errLength", laid_newel_codec_errLength), ("newel/codec.errMark", laid_newel_codec_errMark)] }
def CodecEncodesSaid : Prop := codecEncodesRow.holds Tryz.pinned (OpenSpec.ofChange codecEncodesSpec)

/-- ITS FALSE NEIGHBOUR: 'it returns false'. Refute it at one input. -/
def codecEncodesWrong : ChangeSpec := { name := "codecEncodes", fn := fun _ => fun
  | [d] => { results := [.lit (.bool false)], args := [d] }
  | _ => none }
def CodecEncodesWrongFalsely : Prop := codecEncodesRow.holds Tryz.pinned (OpenSpec.ofChange codecEncodesWrong)

/-- 'newellaw11.CodecBack': WHATEVER THE INPUT: true; the input reads as it did. -/
def codecBackSpec : ChangeSpec := { name := "codecBack", fn := fun _ => fun
  | [d] => { results := [.lit (.bool true)], args := [d] }
  | _ => none }
def codecBackRow : OpenClaim := { program := "ytpkjbcgmhkkfiaagreatdoor", sum := "1ebcf15cb2ec40fab4347ceeab37b50e03a07a83f3e2b63239ffe811ceae7f23", func := "newel/newellaw11.CodecBack", spec := "codecBack", inPlace := ["internal/reflectlite.TypeOf", "internal/reflectlite.ValueOf", "(internal/reflectlite.Value).Type", "(internal/reflectlite.Value).IsNil", "(internal/reflectlite.Value).Elem", "(internal/reflectlite.Value).Set"], unfollowed := true, recurses := true, named := ["newel/crc.halves", "newel/codec.errMark", "newel/codec.errLength", "errors.errorType"], apart := false, laid := [("errors.errorType", laid_errors_errorType), ("newel/crc.halves", laid_newel_crc_halves), ("newel/codec.errLength", laid_newel_codec_errLength), ("newel/codec.errMark", laid_newel_codec_errMark)] }
def CodecBackSaid : Prop := codecBackRow.holds Tryz.pinned (OpenSpec.ofChange codecBackSpec)

/-- ITS FALSE NEIGHBOUR: 'it returns false'. Refute it at one input. -/
def codecBackWrong : ChangeSpec := { name := "codecBack", fn := fun _ => fun
  | [d] => { results := [.lit (.bool false)], args := [d] }
  | _ => none }
def CodecBackWrongFalsely : Prop := codecBackRow.holds Tryz.pinned (OpenSpec.ofChange codecBackWrong)

/-- 'newellaw11.CodecOnly': WHATEVER THE INPUT: true; the input reads as it did. -/
def codecOnlySpec : ChangeSpec := { name := "codecOnly", fn := fun _ => fun
  | [d] => { results := [.lit (.bool true)], args := [d] }
  | _ => none }
def codecOnlyRow : OpenClaim := { program := "ytpkjbcgmhkkfiaagreatdoor", sum := "1ebcf15cb2ec40fab4347ceeab37b50e03a07a83f3e2b63239ffe811ceae7f23", func := "newel/newellaw11.CodecOnly", spec := "codecOnly", inPlace := ["internal/reflectlite.TypeOf", "internal/reflectlite.ValueOf", "(internal/reflectlite.Value).Type", "(internal/reflectlite.Value).IsNil", "(internal/reflectlite.Value).Elem", "(internal/reflectlite.Value).Set"], unfollowed := true, recurses := true, named := ["newel/crc.halves", "newel/codec.errMark", "newel/codec.errLength", "errors.errorType"], apart := false, laid := [("errors.errorType", laid_errors_errorType), ("newel/crc.halves", laid_newel_crc_halves), ("newel/codec.errLength", laid_newel_codec_errLength), ("newel/codec.errMark", laid_newel_codec_errMark)] }
def CodecOnlySaid : Prop := codecOnlyRow.holds Tryz.pinned (OpenSpec.ofChange codecOnlySpec)

/-- ITS FALSE NEIGHBOUR: 'it returns false'. Refute it at one input. -/
def codecOnlyWrong : ChangeSpec := { name := "codecOnly", fn := fun _ => fun
  | [d] => { results := [.lit (.bool false)], args := [d] }
  | _ => none }
def CodecOnlyWrongFalsely : Prop := codecOnlyRow.holds Tryz.pinned (OpenSpec.ofChange codecOnlyWrong)

/-- 'newellaw11.CodecCuts': WHATEVER THE INPUT: true; the input reads as it did. -/
def codecCutsSpec : ChangeSpec := { name := "codecCuts", fn := fun _ => fun
  | [d1, d2, d3] => { results := [.lit (.bool true)], args := [d1, d2, d3] }
  | _ => none }
def codecCutsRow : OpenClaim := { program := "ytpkjbcgmhkkfiaagreatdoor", sum := "1ebcf15cb2ec40fab4347ceeab37b50e03a07a83f3e2b63239ffe811ceae7f23", func := "newel/newellaw11.CodecCuts", spec := "codecCuts", inPlace := ["internal/reflectlite.TypeOf", "internal/reflectlite.ValueOf", "(internal/reflectlite.Value).Type", "(internal/reflectlite.Value).IsNil", "(internal/reflectlite.Value).Elem", "(internal/reflectlite.Value).Set"], unfollowed := true, recurses := true, named := ["newel/crc.halves", "newel/codec.errMark", "newel/codec.errLength", "errors.errorType"], apart := false, laid := [("errors.errorType", laid_errors_errorType), ("newel/crc.halves", laid_newel_crc_halves), ("newel/codec.errLength", laid_newel_codec_errLength), ("newel/codec.errMark", laid_newel_codec_errMark)] }
def CodecCutsSaid : Prop := codecCutsRow.holds Tryz.pinned (OpenSpec.ofChange codecCutsSpec)

/-- ITS FALSE NEIGHBOUR: 'it returns false'. Refute it at one input. -/
def codecCutsWrong : ChangeSpec := { name := "codecCuts", fn := fun _ => fun
  | [d1, d2, d3] => { results := [.lit (.bool false)], args := [d1, d2, d3] }
  | _ => none }
def CodecCutsWrongFalsely : Prop := codecCutsRow.holds Tryz.pinned (OpenSpec.ofChange codecCutsWrong)

/- THE SECOND FORM. 'bulk': how many values and letters a reading holds, each counted each time it is reached (what is shared counts as often as it is met; a slice's spare places count too). A statement '..UptoSaid' is the law's where the arguments, and the package variables that the reading takes, are together of bulk at most 1048576: NARROWER than '..Said'. Prove '..Said' where nothing that the law and all that it calls make is longer than what came in: it says more and counts as full. Else prove '..UptoSaid'. A law counts once. -/
mutual
def uptoBulk {H : Type} : DataW H → Nat
  | .lit (.string bytes) => bytes.length + 1
  | .lit _ => 1
  | .nil => 1
  | .ptr d => uptoBulk d + 1
  | .slice elems spare => uptoBulkAll elems + uptoBulkAll spare + 1
  | .agg parts => uptoBulkAll parts + 1
  | .iface _ d => uptoBulk d + 1
  | .map entries => uptoBulkEntries entries + 1
  | .held _ => 1
def uptoBulkAll {H : Type} : List (DataW H) → Nat
  | [] => 0
  | d :: r => uptoBulk d + uptoBulkAll r
def uptoBulkEntries {H : Type} : List (Lit × DataW H) → Nat
  | [] => 0
  | x :: r => uptoBulkEntry x + uptoBulkEntries r
def uptoBulkEntry {H : Type} : Lit × DataW H → Nat
  | (.string bytes, d) => bytes.length + uptoBulk d + 1
  | (_, d) => uptoBulk d + 1
 end
def uptoSmall : (H : Type) → List (DataW H) → Bool := fun _ ds => decide (uptoBulkAll ds ≤ 1048576)
def OpenSpec.upto (s : _root_.Go.ChangeSpec) : _root_.Go.OpenSpec := { _root_.Go.OpenSpec.ofChange s with cond := some uptoSmall }

/-- 'newellaw11.CodecEncodes', WHERE WHAT IT READS IS OF BULK AT MOST 1048576: true; the input reads as it did. -/
def codecEncodesUptoRow : OpenClaim := { program := "ytpkjbcgmhkkfiaagreatdoor", sum := "1ebcf15cb2ec40fab4347ceeab37b50e03a07a83f3e2b63239ffe811ceae7f23", func := "newel/newellaw11.CodecEncodes", spec := "codecEncodes", inPlace := ["internal/reflectlite.TypeOf", "internal/reflectlite.ValueOf", "(internal/reflectlite.Value).Type", "(internal/reflectlite.Value).IsNil", "(internal/reflectlite.Value).Elem", "(internal/reflectlite.Value).Set"], unfollowed := true, recurses := true, named := ["newel/crc.halves", "newel/codec.errMark", "newel/codec.errLength", "errors.errorType"], apart := false, laid := [("errors.errorType", laid_errors_errorType), ("newel/crc.halves", laid_newel_crc_halves), ("newel/codec.errLength", laid_newel_codec_errLength), ("newel/codec.errMark", laid_newel_codec_errMark)], narrowed := true }
def CodecEncodesUptoSaid : Prop := codecEncodesUptoRow.holds Tryz.pinned (OpenSpec.upto codecEncodesSpec)

/-- 'newellaw11.CodecBack', WHERE WHAT IT READS IS OF BULK AT MOST 1048576: true; the input reads as it did. -/
def codecBackUptoRow : OpenClaim := { program := "ytpkjbcgmhkkfiaagreatdoor", sum := "1ebcf15cb2ec40fab4347ceeab37b50e03a07a83f3e2b63239ffe811ceae7f23", func := "newel/newellaw11.CodecBack", spec := "codecBack", inPlace := ["internal/reflectlite.TypeOf", "internal/reflectlite.ValueOf", "(internal/reflectlite.Value).Type", "(internal/reflectlite.Value).IsNil", "(internal/reflectlite.Value).Elem", "(internal/reflectlite.Value).Set"], unfollowed := true, recurses := true, named := ["newel/crc.halves", "newel/codec.errMark", "newel/codec.errLength", "errors.errorType"], apart := false, laid := [("errors.errorType", laid_errors_errorType), ("newel/crc.halves", laid_newel_crc_halves), ("newel/codec.errLength", laid_newel_codec_errLength), ("newel/codec.errMark", laid_newel_codec_errMark)], narrowed := true }
def CodecBackUptoSaid : Prop := codecBackUptoRow.holds Tryz.pinned (OpenSpec.upto codecBackSpec)

/-- 'newellaw11.CodecOnly', WHERE WHAT IT READS IS OF BULK AT MOST 1048576: true; the input reads as it did. -/
def codecOnlyUptoRow : OpenClaim := { program := "ytpkjbcgmhkkfiaagreatdoor", sum := "1ebcf15cb2ec40fab4347ceeab37b50e03a07a83f3e2b63239ffe811ceae7f23", func := "newel/newellaw11.CodecOnly", spec := "codecOnly", inPlace := ["internal/reflectlite.TypeOf", "internal/reflectlite.ValueOf", "(internal/reflectlite.Value).Type", "(internal/reflectlite.Value).IsNil", "(internal/reflectlite.Value).Elem", "(internal/reflectlite.Value).Set"], unfollowed := true, recurses := true, named := ["newel/crc.halves", "newel/codec.errMark", "newel/codec.errLength", "errors.errorType"], apart := false, laid := [("errors.errorType", laid_errors_errorType), ("newel/crc.halves", laid_newel_crc_halves), ("newel/codec.errLength", laid_newel_codec_errLength), ("newel/codec.errMark", laid_newel_codec_errMark)], narrowed := true }
def CodecOnlyUptoSaid : Prop := codecOnlyUptoRow.holds Tryz.pinned (OpenSpec.upto codecOnlySpec)

/-- 'newellaw11.CodecCuts', WHERE WHAT IT READS IS OF BULK AT MOST 1048576: true; the input reads as it did. -/
def codecCutsUptoRow : OpenClaim := { program := "ytpkjbcgmhkkfiaagreatdoor", sum := "1ebcf15cb2ec40fab4347ceeab37b50e03a07a83f3e2b63239ffe811ceae7f23", func := "newel/newellaw11.CodecCuts", spec := "codecCuts", inPlace := ["internal/reflectlite.TypeOf", "internal/reflectlite.ValueOf", "(internal/reflectlite.Value).Type", "(internal/reflectlite.Value).IsNil", "(internal/reflectlite.Value).Elem", "(internal/reflectlite.Value).Set"], unfollowed := true, recurses := true, named := ["newel/crc.halves", "newel/codec.errMark", "newel/codec.errLength", "errors.errorType"], apart := false, laid := [("errors.errorType", laid_errors_errorType), ("newel/crc.halves", laid_newel_crc_halves), ("newel/codec.errLength", laid_newel_codec_errLength), ("newel/codec.errMark", laid_newel_codec_errMark)], narrowed := true }
def CodecCutsUptoSaid : Prop := codecCutsUptoRow.holds Tryz.pinned (OpenSpec.upto codecCutsSpec)

end Rows
end Go.Proofs.YtpkjbcgmhkkfiaaGreatDoor
