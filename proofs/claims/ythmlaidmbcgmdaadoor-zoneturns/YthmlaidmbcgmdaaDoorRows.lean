/-
  NARROWER THAN 'FOR EVERY INPUT', by the rows' own cells (each row's printed sentence says how): ZoneChecks: laid · ZoneLocals: laid · ZoneInstants: laid · ZoneBack: laid · ZoneSteps: laid · ZoneMany: laid · ZoneTurns: laid.
  DERIVED. THE GIVEN ROWS OF THIS SEAT. 7 by the template 'for every input the law returns true; each argument reads behind the call as it read before'; 0 by the template 'total and deterministic' (their statements: YthmlaidmbcgmdaaDoorTotals.lean).
  GIVEN WITH THE SEED: the statements are not yours to turn. If you find one false, say at which input.
  Laid BY PROGRAM, IN A SANDBOX (cutbox-rows.mjs): the forced cells as the released guide's own fill.sh prints them over the translation 2e5ae85238ea9bf5… (all of the seat's roots in one cut). By AI agents, Wed Nov 11 2026. No macro, syntax, notation, axiom, sorry.
-/
import Derived.Test.YthmlaidmbcgmdaaDoorChecked
import GoSem.Claim
import GoSem.ClaimJoined
import GoSem.ClaimMapViews
import Derived.JoinedTies
import Derived.KernelRfl
namespace Go.Proofs.YthmlaidmbcgmdaaDoor
/- THE CELL 'sum', in the pinned program and in every row, IS THE sha256 OF THE DUMP (.gsa) THAT YthmlaidmbcgmdaaDoorProg.lean LOADS. Nothing in Lean hashes anything: it is a label: what it is worth is what the hold of that sum in a sandbox is worth. -/
noncomputable def Tryd.pinned : Pinned := { name := "ythmlaidmbcgmdaadoor", sum := "2e5ae85238ea9bf5b703b699844c3312db8beff655a46eab0855679e87617be7", checked := Tryd.checked }
namespace Rows
def none {H : Type} : Left H := { results := [], args := [] }

/- WHAT THE LISTED PACKAGE-LEVEL VARIABLES READ AS WHEN THE CALL BEGINS. Each datum BY PROGRAM (the guide's laid-datum.mjs) off the statement by which the dump's own 'gosem.cut.vars' lays the variable. In a bare row this is a premise. The card (YthmlaidmbcgmdaaDoorCards.lean) ties it to the program's text. -/
def laid_newel_greg_monthDays {H : Type} : DataW H := .agg [.lit (.int .i64 31), .lit (.int .i64 28), .lit (.int .i64 31), .lit (.int .i64 30), .lit (.int .i64 31), .lit (.int .i64 30), .lit (.int .i64 31), .lit (.int .i64 31), .lit (.int .i64 30), .lit (.int .i64 31), .lit (.int .i64 30), .lit (.int .i64 31)]

/-- 'newellaw06.ZoneChecks': WHATEVER THE INPUT: true; the input reads as it did. -/
def zoneChecksSpec : ChangeSpec := { name := "zoneChecks", fn := fun _ => fun
  | [d] => { results := [.lit (.bool true)], args := [d] }
  | _ => none }
def zoneChecksRow : OpenClaim := { program := "ythmlaidmbcgmdaadoor", sum := "2e5ae85238ea9bf5b703b699844c3312db8beff655a46eab0855679e87617be7", func := "newel/newellaw06.ZoneChecks", spec := "zoneChecks", unfollowed := true, recurses := true, named := ["newel/greg.monthDays"], apart := false, laid := [("newel/greg.monthDays", laid_newel_greg_monthDays)] }
def ZoneChecksSaid : Prop := zoneChecksRow.holds Tryd.pinned (OpenSpec.ofChange zoneChecksSpec)

/-- ITS FALSE NEIGHBOUR: 'it returns false'. Refute it at one input. -/
def zoneChecksWrong : ChangeSpec := { name := "zoneChecks", fn := fun _ => fun
  | [d] => { results := [.lit (.bool false)], args := [d] }
  | _ => none }
def ZoneChecksWrongFalsely : Prop := zoneChecksRow.holds Tryd.pinned (OpenSpec.ofChange zoneChecksWrong)

/-- 'newellaw06.ZoneLocals': WHATEVER THE INPUT: true; the input reads as it did. -/
def zoneLocalsSpec : ChangeSpec := { name := "zoneLocals", fn := fun _ => fun
  | [d1, d2] => { results := [.lit (.bool true)], args := [d1, d2] }
  | _ => none }
def zoneLocalsRow : OpenClaim := { program := "ythmlaidmbcgmdaadoor", sum := "2e5ae85238ea9bf5b703b699844c3312db8beff655a46eab0855679e87617be7", func := "newel/newellaw06.ZoneLocals", spec := "zoneLocals", unfollowed := true, recurses := true, named := ["newel/greg.monthDays"], apart := false, laid := [("newel/greg.monthDays", laid_newel_greg_monthDays)] }
def ZoneLocalsSaid : Prop := zoneLocalsRow.holds Tryd.pinned (OpenSpec.ofChange zoneLocalsSpec)

/-- ITS FALSE NEIGHBOUR: 'it returns false'. Refute it at one input. -/
def zoneLocalsWrong : ChangeSpec := { name := "zoneLocals", fn := fun _ => fun
  | [d1, d2] => { results := [.lit (.bool false)], args := [d1, d2] }
  | _ => none }
def ZoneLocalsWrongFalsely : Prop := zoneLocalsRow.holds Tryd.pinned (OpenSpec.ofChange zoneLocalsWrong)

/-- 'newellaw06.ZoneInstants': WHATEVER THE INPUT: true; the input reads as it did. -/
def zoneInstantsSpec : ChangeSpec := { name := "zoneInstants", fn := fun _ => fun
  | [d1, d2, d3] => { results := [.lit (.bool true)], args := [d1, d2, d3] }
  | _ => none }
def zoneInstantsRow : OpenClaim := { program := "ythmlaidmbcgmdaadoor", sum := "2e5ae85238ea9bf5b703b699844c3312db8beff655a46eab0855679e87617be7", func := "newel/newellaw06.ZoneInstants", spec := "zoneInstants", unfollowed := true, recurses := true, named := ["newel/greg.monthDays"], apart := false, laid := [("newel/greg.monthDays", laid_newel_greg_monthDays)] }
def ZoneInstantsSaid : Prop := zoneInstantsRow.holds Tryd.pinned (OpenSpec.ofChange zoneInstantsSpec)

/-- ITS FALSE NEIGHBOUR: 'it returns false'. Refute it at one input. -/
def zoneInstantsWrong : ChangeSpec := { name := "zoneInstants", fn := fun _ => fun
  | [d1, d2, d3] => { results := [.lit (.bool false)], args := [d1, d2, d3] }
  | _ => none }
def ZoneInstantsWrongFalsely : Prop := zoneInstantsRow.holds Tryd.pinned (OpenSpec.ofChange zoneInstantsWrong)

/-- 'newellaw06.ZoneBack': WHATEVER THE INPUT: true; the input reads as it did. -/
def zoneBackSpec : ChangeSpec := { name := "zoneBack", fn := fun _ => fun
  | [d1, d2] => { results := [.lit (.bool true)], args := [d1, d2] }
  | _ => none }
def zoneBackRow : OpenClaim := { program := "ythmlaidmbcgmdaadoor", sum := "2e5ae85238ea9bf5b703b699844c3312db8beff655a46eab0855679e87617be7", func := "newel/newellaw06.ZoneBack", spec := "zoneBack", unfollowed := true, recurses := true, named := ["newel/greg.monthDays"], apart := false, laid := [("newel/greg.monthDays", laid_newel_greg_monthDays)] }
def ZoneBackSaid : Prop := zoneBackRow.holds Tryd.pinned (OpenSpec.ofChange zoneBackSpec)

/-- ITS FALSE NEIGHBOUR: 'it returns false'. Refute it at one input. -/
def zoneBackWrong : ChangeSpec := { name := "zoneBack", fn := fun _ => fun
  | [d1, d2] => { results := [.lit (.bool false)], args := [d1, d2] }
  | _ => none }
def ZoneBackWrongFalsely : Prop := zoneBackRow.holds Tryd.pinned (OpenSpec.ofChange zoneBackWrong)

/-- 'newellaw06.ZoneSteps': WHATEVER THE INPUT: true; the input reads as it did. -/
def zoneStepsSpec : ChangeSpec := { name := "zoneSteps", fn := fun _ => fun
  | [d1, d2] => { results := [.lit (.bool true)], args := [d1, d2] }
  | _ => none }
def zoneStepsRow : OpenClaim := { program := "ythmlaidmbcgmdaadoor", sum := "2e5ae85238ea9bf5b703b699844c3312db8beff655a46eab0855679e87617be7", func := "newel/newellaw06.ZoneSteps", spec := "zoneSteps", unfollowed := true, recurses := true, named := ["newel/greg.monthDays"], apart := false, laid := [("newel/greg.monthDays", laid_newel_greg_monthDays)] }
def ZoneStepsSaid : Prop := zoneStepsRow.holds Tryd.pinned (OpenSpec.ofChange zoneStepsSpec)

/-- ITS FALSE NEIGHBOUR: 'it returns false'. Refute it at one input. -/
def zoneStepsWrong : ChangeSpec := { name := "zoneSteps", fn := fun _ => fun
  | [d1, d2] => { results := [.lit (.bool false)], args := [d1, d2] }
  | _ => none }
def ZoneStepsWrongFalsely : Prop := zoneStepsRow.holds Tryd.pinned (OpenSpec.ofChange zoneStepsWrong)

/-- 'newellaw06.ZoneMany': WHATEVER THE INPUT: true; the input reads as it did. -/
def zoneManySpec : ChangeSpec := { name := "zoneMany", fn := fun _ => fun
  | [d1, d2, d3] => { results := [.lit (.bool true)], args := [d1, d2, d3] }
  | _ => none }
def zoneManyRow : OpenClaim := { program := "ythmlaidmbcgmdaadoor", sum := "2e5ae85238ea9bf5b703b699844c3312db8beff655a46eab0855679e87617be7", func := "newel/newellaw06.ZoneMany", spec := "zoneMany", unfollowed := true, recurses := true, named := ["newel/greg.monthDays"], apart := false, laid := [("newel/greg.monthDays", laid_newel_greg_monthDays)] }
def ZoneManySaid : Prop := zoneManyRow.holds Tryd.pinned (OpenSpec.ofChange zoneManySpec)

/-- ITS FALSE NEIGHBOUR: 'it returns false'. Refute it at one input. -/
def zoneManyWrong : ChangeSpec := { name := "zoneMany", fn := fun _ => fun
  | [d1, d2, d3] => { results := [.lit (.bool false)], args := [d1, d2, d3] }
  | _ => none }
def ZoneManyWrongFalsely : Prop := zoneManyRow.holds Tryd.pinned (OpenSpec.ofChange zoneManyWrong)

/-- 'newellaw06.ZoneTurns': WHATEVER THE INPUT: true; the input reads as it did. -/
def zoneTurnsSpec : ChangeSpec := { name := "zoneTurns", fn := fun _ => fun
  | [d1, d2] => { results := [.lit (.bool true)], args := [d1, d2] }
  | _ => none }
def zoneTurnsRow : OpenClaim := { program := "ythmlaidmbcgmdaadoor", sum := "2e5ae85238ea9bf5b703b699844c3312db8beff655a46eab0855679e87617be7", func := "newel/newellaw06.ZoneTurns", spec := "zoneTurns", unfollowed := true, recurses := true, named := ["newel/greg.monthDays"], apart := false, laid := [("newel/greg.monthDays", laid_newel_greg_monthDays)] }
def ZoneTurnsSaid : Prop := zoneTurnsRow.holds Tryd.pinned (OpenSpec.ofChange zoneTurnsSpec)

/-- ITS FALSE NEIGHBOUR: 'it returns false'. Refute it at one input. -/
def zoneTurnsWrong : ChangeSpec := { name := "zoneTurns", fn := fun _ => fun
  | [d1, d2] => { results := [.lit (.bool false)], args := [d1, d2] }
  | _ => none }
def ZoneTurnsWrongFalsely : Prop := zoneTurnsRow.holds Tryd.pinned (OpenSpec.ofChange zoneTurnsWrong)

/- THE SECOND FORM. 'bulk': how many values and letters a reading holds, each counted each time it is reached (what is shared counts as often as it is met; a slice's spare places count too). A statement '..UptoSaid' is the law's where the arguments, and the package variables that the reading takes, are together of bulk at most 1048576: NARROWER than '..Said'. Prove '..Said' where nothing that the law and all that it calls make is longer than what came in: it says more and counts as full. Else prove '..UptoSaid'. A law counts once. -/
mutual
def uptoBulk {H : Type} : DataW H → Nat
  | .lit (.string bytes) => bytes.length + 1
  | .lit _ => 1
  | .nil => 1
  | .ptr d => uptoBulk d + 1
  | .slice elems spare => uptoBulkAll elems + uptoBulkAll spare + 1
  | .agg parts => uptoBulkAll parts + 1
  | .iface _ d => uptoBulk d + 1
  | .map entries => uptoBulkEntries entries + 1
  | .held _ => 1
def uptoBulkAll {H : Type} : List (DataW H) → Nat
  | [] => 0
  | d :: r => uptoBulk d + uptoBulkAll r
def uptoBulkEntries {H : Type} : List (Lit × DataW H) → Nat
  | [] => 0
  | x :: r => uptoBulkEntry x + uptoBulkEntries r
def uptoBulkEntry {H : Type} : Lit × DataW H → Nat
  | (.string bytes, d) => bytes.length + uptoBulk d + 1
  | (_, d) => uptoBulk d + 1
 end
def uptoSmall : (H : Type) → List (DataW H) → Bool := fun _ ds => decide (uptoBulkAll ds ≤ 1048576)
def OpenSpec.upto (s : _root_.Go.ChangeSpec) : _root_.Go.OpenSpec := { _root_.Go.OpenSpec.ofChange s with cond := some uptoSmall }

/-- 'newellaw06.ZoneChecks', WHERE WHAT IT READS IS OF BULK AT MOST 1048576: true; the input reads as it did. -/
def zoneChecksUptoRow : OpenClaim := { program := "ythmlaidmbcgmdaadoor", sum := "2e5ae85238ea9bf5b703b699844c3312db8beff655a46eab0855679e87617be7", func := "newel/newellaw06.ZoneChecks", spec := "zoneChecks", unfollowed := true, recurses := true, named := ["newel/greg.monthDays"], apart := false, laid := [("newel/greg.monthDays", laid_newel_greg_monthDays)], narrowed := true }
def ZoneChecksUptoSaid : Prop := zoneChecksUptoRow.holds Tryd.pinned (OpenSpec.upto zoneChecksSpec)

/-- 'newellaw06.ZoneLocals', WHERE WHAT IT READS IS OF BULK AT MOST 1048576: true; the input reads as it did. -/
def zoneLocalsUptoRow : OpenClaim := { program := "ythmlaidmbcgmdaadoor", sum := "2e5ae85238ea9bf5b703b699844c3312db8beff655a46eab0855679e87617be7", func := "newel/newellaw06.ZoneLocals", spec := "zoneLocals", unfollowed := true, recurses := true, named := ["newel/greg.monthDays"], apart := false, laid := [("newel/greg.monthDays", laid_newel_greg_monthDays)], narrowed := true }
def ZoneLocalsUptoSaid : Prop := zoneLocalsUptoRow.holds Tryd.pinned (OpenSpec.upto zoneLocalsSpec)

/-- 'newellaw06.ZoneInstants', WHERE WHAT IT READS IS OF BULK AT MOST 1048576: true; the input reads as it did. -/
def zoneInstantsUptoRow : OpenClaim := { program := "ythmlaidmbcgmdaadoor", sum := "2e5ae85238ea9bf5b703b699844c3312db8beff655a46eab0855679e87617be7", func := "newel/newellaw06.ZoneInstants", spec := "zoneInstants", unfollowed := true, recurses := true, named := ["newel/greg.monthDays"], apart := false, laid := [("newel/greg.monthDays", laid_newel_greg_monthDays)], narrowed := true }
def ZoneInstantsUptoSaid : Prop := zoneInstantsUptoRow.holds Tryd.pinned (OpenSpec.upto zoneInstantsSpec)

/-- 'newellaw06.ZoneBack', WHERE WHAT IT READS IS OF BULK AT MOST 1048576: true; the input reads as it did. -/
def zoneBackUptoRow : OpenClaim := { program := "ythmlaidmbcgmdaadoor", sum := "2e5ae85238ea9bf5b703b699844c3312db8beff655a46eab0855679e87617be7", func := "newel/newellaw06.ZoneBack", spec := "zoneBack", unfollowed := true, recurses := true, named := ["newel/greg.monthDays"], apart := false, laid := [("newel/greg.monthDays", laid_newel_greg_monthDays)], narrowed := true }
def ZoneBackUptoSaid : Prop := zoneBackUptoRow.holds Tryd.pinned (OpenSpec.upto zoneBackSpec)

/-- 'newellaw06.ZoneSteps', WHERE WHAT IT READS IS OF BULK AT MOST 1048576: true; the input reads as it did. -/
def zoneStepsUptoRow : OpenClaim := { program := "ythmlaidmbcgmdaadoor", sum := "2e5ae85238ea9bf5b703b699844c3312db8beff655a46eab0855679e87617be7", func := "newel/newellaw06.ZoneSteps", spec := "zoneSteps", unfollowed := true, recurses := true, named := ["newel/greg.monthDays"], apart := false, laid := [("newel/greg.monthDays", laid_newel_greg_monthDays)], narrowed := true }
def ZoneStepsUptoSaid : Prop := zoneStepsUptoRow.holds Tryd.pinned (OpenSpec.upto zoneStepsSpec)

/-- 'newellaw06.ZoneMany', WHERE WHAT IT READS IS OF BULK AT MOST 1048576: true; the input reads as it did. -/
def zoneManyUptoRow : OpenClaim := { program := "ythmlaidmbcgmdaadoor", sum := "2e5ae85238ea9bf5b703b699844c3312db8beff655a46eab0855679e87617be7", func := "newel/newellaw06.ZoneMany", spec := "zoneMany", unfollowed := true, recurses := true, named := ["newel/greg.monthDays"], apart := false, laid := [("newel/greg.monthDays", laid_newel_greg_monthDays)], narrowed := true }
def ZoneManyUptoSaid : Prop := zoneManyUptoRow.holds Tryd.pinned (OpenSpec.upto zoneManySpec)

/-- 'newellaw06.ZoneTurns', WHERE WHAT IT READS IS OF BULK AT MOST 1048576: true; the input reads as it did. -/
def zoneTurnsUptoRow : OpenClaim := { program := "ythmlaidmbcgmdaadoor", sum := "2e5ae85238ea9bf5b703b699844c3312db8beff655a46eab0855679e87617be7", func := "newel/newellaw06.ZoneTurns", spec := "zoneTurns", unfollowed := true, recurses := true, named := ["newel/greg.monthDays"], apart := false, laid := [("newel/greg.monthDays", laid_newel_greg_monthDays)], narrowed := true }
def ZoneTurnsUptoSaid : Prop := zoneTurnsUptoRow.holds Tryd.pinned (OpenSpec.upto zoneTurnsSpec)

end Rows
end Go.Proofs.YthmlaidmbcgmdaaDoor
