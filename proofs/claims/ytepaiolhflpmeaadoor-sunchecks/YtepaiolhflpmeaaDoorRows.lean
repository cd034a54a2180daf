/-
  NARROWER THAN 'FOR EVERY INPUT', by the rows' own cells (each row's printed sentence says how): SunChecks: laid · SunTells: laid · SunMoments: laid · SunLocal: laid.
  DERIVED. THE GIVEN ROWS OF THIS SEAT. 4 by the template 'for every input the law returns true; each argument reads behind the call as it read before'; 0 by the template 'total and deterministic' (their statements: YtepaiolhflpmeaaDoorTotals.lean).
  GIVEN WITH THE SEED: the statements are not yours to turn. If you find one false, say at which input.
  Laid BY PROGRAM, IN A SANDBOX (cutbox-rows.mjs): the forced cells as the released guide's own fill.sh prints them over the translation 8c998f0a0be82179… (all of the seat's roots in one cut). By AI agents, Wed Nov 11 2026. No macro, syntax, notation, axiom, sorry.
-/
import Derived.Test.YtepaiolhflpmeaaDoorChecked
import GoSem.Claim
import GoSem.ClaimJoined
import GoSem.ClaimMapViews
import Derived.JoinedTies
import Derived.KernelRfl
namespace Go.Proofs.YtepaiolhflpmeaaDoor
/- THE CELL 'sum', in the pinned program and in every row, IS THE sha256 OF THE DUMP (.gsa) THAT YtepaiolhflpmeaaDoorProg.lean LOADS. Nothing in Lean hashes anything: it is a label: what it is worth is what the hold of that sum in a sandbox is worth. -/
noncomputable def Tryd.pinned : Pinned := { name := "ytepaiolhflpmeaadoor", sum := "8c998f0a0be821798c504af27cd139fca596b7b0d77cf18a77d2cc872ea9d646", checked := Tryd.checked }
namespace Rows
def none {H : Type} : Left H := { results := [], args := [] }

/- WHAT THE LISTED PACKAGE-LEVEL VARIABLES READ AS WHEN THE CALL BEGINS. Each datum BY PROGRAM (the guide's laid-datum.mjs) off the statement by which the dump's own 'gosem.cut.vars' lays the variable. In a bare row this is a premise. The card (YtepaiolhflpmeaaDoorCards.lean) ties it to the program's text. -/
def laid_newel_greg_monthDays {H : Type} : DataW H := .agg [.lit (.int .i64 31), .lit (.int .i64 28), .lit (.int .i64 31), .lit (.int .i64 30), .lit (.int .i64 31), .lit (.int .i64 30), .lit (.int .i64 31), .lit (.int .i64 31), .lit (.int .i64 30), .lit (.int .i64 31), .lit (.int .i64 30), .lit (.int .i64 31)]

/-- 'newellaw07.SunChecks': WHATEVER THE INPUT: true; the input reads as it did. -/
def sunChecksSpec : ChangeSpec := { name := "sunChecks", fn := fun _ => fun
  | [d] => { results := [.lit (.bool true)], args := [d] }
  | _ => none }
def sunChecksRow : OpenClaim := { program := "ytepaiolhflpmeaadoor", sum := "8c998f0a0be821798c504af27cd139fca596b7b0d77cf18a77d2cc872ea9d646", func := "newel/newellaw07.SunChecks", spec := "sunChecks", unfollowed := true, recurses := true, named := ["newel/greg.monthDays"], apart := false, laid := [("newel/greg.monthDays", laid_newel_greg_monthDays)] }
def SunChecksSaid : Prop := sunChecksRow.holds Tryd.pinned (OpenSpec.ofChange sunChecksSpec)

/-- ITS FALSE NEIGHBOUR: 'it returns false'. Refute it at one input. -/
def sunChecksWrong : ChangeSpec := { name := "sunChecks", fn := fun _ => fun
  | [d] => { results := [.lit (.bool false)], args := [d] }
  | _ => none }
def SunChecksWrongFalsely : Prop := sunChecksRow.holds Tryd.pinned (OpenSpec.ofChange sunChecksWrong)

/-- 'newellaw07.SunTells': WHATEVER THE INPUT: true; the input reads as it did. -/
def sunTellsSpec : ChangeSpec := { name := "sunTells", fn := fun _ => fun
  | [d1, d2] => { results := [.lit (.bool true)], args := [d1, d2] }
  | _ => none }
def sunTellsRow : OpenClaim := { program := "ytepaiolhflpmeaadoor", sum := "8c998f0a0be821798c504af27cd139fca596b7b0d77cf18a77d2cc872ea9d646", func := "newel/newellaw07.SunTells", spec := "sunTells", unfollowed := true, recurses := true, named := ["newel/greg.monthDays"], apart := false, laid := [("newel/greg.monthDays", laid_newel_greg_monthDays)] }
def SunTellsSaid : Prop := sunTellsRow.holds Tryd.pinned (OpenSpec.ofChange sunTellsSpec)

/-- ITS FALSE NEIGHBOUR: 'it returns false'. Refute it at one input. -/
def sunTellsWrong : ChangeSpec := { name := "sunTells", fn := fun _ => fun
  | [d1, d2] => { results := [.lit (.bool false)], args := [d1, d2] }
  | _ => none }
def SunTellsWrongFalsely : Prop := sunTellsRow.holds Tryd.pinned (OpenSpec.ofChange sunTellsWrong)

/-- 'newellaw07.SunMoments': WHATEVER THE INPUT: true; the input reads as it did. -/
def sunMomentsSpec : ChangeSpec := { name := "sunMoments", fn := fun _ => fun
  | [d1, d2, d3] => { results := [.lit (.bool true)], args := [d1, d2, d3] }
  | _ => none }
def sunMomentsRow : OpenClaim := { program := "ytepaiolhflpmeaadoor", sum := "8c998f0a0be821798c504af27cd139fca596b7b0d77cf18a77d2cc872ea9d646", func := "newel/newellaw07.SunMoments", spec := "sunMoments", unfollowed := true, recurses := true, named := ["newel/greg.monthDays"], apart := false, laid := [("newel/greg.monthDays", laid_newel_greg_monthDays)] }
def SunMomentsSaid : Prop := sunMomentsRow.holds Tryd.pinned (OpenSpec.ofChange sunMomentsSpec)

/-- ITS FALSE NEIGHBOUR: 'it returns false'. Refute it at one input. -/
def sunMomentsWrong : ChangeSpec := { name := "sunMoments", fn := fun _ => fun
  | [d1, d2, d3] => { results := [.lit (.bool false)], args := [d1, d2, d3] }
  | _ => none }
def SunMomentsWrongFalsely : Prop := sunMomentsRow.holds Tryd.pinned (OpenSpec.ofChange sunMomentsWrong)

/-- 'newellaw07.SunLocal': WHATEVER THE INPUT: true; the input reads as it did. -/
def sunLocalSpec : ChangeSpec := { name := "sunLocal", fn := fun _ => fun
  | [d1, d2, d3] => { results := [.lit (.bool true)], args := [d1, d2, d3] }
  | _ => none }
def sunLocalRow : OpenClaim := { program := "ytepaiolhflpmeaadoor", sum := "8c998f0a0be821798c504af27cd139fca596b7b0d77cf18a77d2cc872ea9d646", func := "newel/newellaw07.SunLocal", spec := "sunLocal", unfollowed := true, recurses := true, named := ["newel/greg.monthDays"], apart := false, laid := [("newel/greg.monthDays", laid_newel_greg_monthDays)] }
def SunLocalSaid : Prop := sunLocalRow.holds Tryd.pinned (OpenSpec.ofChange sunLocalSpec)

/-- ITS FALSE NEIGHBOUR: 'it returns false'. Refute it at one input. -/
def sunLocalWrong : ChangeSpec := { name := "sunLocal", fn := fun _ => fun
  | [d1, d2, d3] => { results := [.lit (.bool false)], args := [d1, d2, d3] }
  | _ => none }
def SunLocalWrongFalsely : Prop := sunLocalRow.holds Tryd.pinned (OpenSpec.ofChange sunLocalWrong)

/- THE SECOND FORM. 'bulk': how many values and letters a reading holds, each counted each time it is reached (what is shared counts as often as it is met; a slice's spare places count too). A statement '..UptoSaid' is the law's where the arguments, and the package variables that the reading takes, are together of bulk at most 1048576: NARROWER than '..Said'. Prove '..Said' where nothing that the law and all that it calls make is longer than what came in: it says more and counts as full. Else prove '..UptoSaid'. A law counts once. -/
mutual
def uptoBulk {H : Type} : DataW H → Nat
  | .lit (.string bytes) => bytes.length + 1
  | .lit _ => 1
  | .nil => 1
  | .ptr d => uptoBulk d + 1
  | .slice elems spare => uptoBulkAll elems + uptoBulkAll spare + 1
  | .agg parts => uptoBulkAll parts + 1
  | .iface _ d => uptoBulk d + 1
  | .map entries => uptoBulkEntries entries + 1
  | .held _ => 1
def uptoBulkAll {H : Type} : List (DataW H) → Nat
  | [] => 0
  | d :: r => uptoBulk d + uptoBulkAll r
def uptoBulkEntries {H : Type} : List (Lit × DataW H) → Nat
  | [] => 0
  | x :: r => uptoBulkEntry x + uptoBulkEntries r
def uptoBulkEntry {H : Type} : Lit × DataW H → Nat
  | (.string bytes, d) => bytes.length + uptoBulk d + 1
  | (_, d) => uptoBulk d + 1
 end
def uptoSmall : (H : Type) → List (DataW H) → Bool := fun _ ds => decide (uptoBulkAll ds ≤ 1048576)
def OpenSpec.upto (s : _root_.Go.ChangeSpec) : _root_.Go.OpenSpec := { _root_.Go.OpenSpec.ofChange s with cond := some uptoSmall }

/-- 'newellaw07.SunChecks', WHERE WHAT IT READS IS OF BULK AT MOST 1048576: true; the input reads as it did. -/
def sunChecksUptoRow : OpenClaim := { program := "ytepaiolhflpmeaadoor", sum := "8c998f0a0be821798c504af27cd139fca596b7b0d77cf18a77d2cc872ea9d646", func := "newel/newellaw07.SunChecks", spec := "sunChecks", unfollowed := true, recurses := true, named := ["newel/greg.monthDays"], apart := false, laid := [("newel/greg.monthDays", laid_newel_greg_monthDays)], narrowed := true }
def SunChecksUptoSaid : Prop := sunChecksUptoRow.holds Tryd.pinned (OpenSpec.upto sunChecksSpec)

/-- 'newellaw07.SunTells', WHERE WHAT IT READS IS OF BULK AT MOST 1048576: true; the input reads as it did. -/
def sunTellsUptoRow : OpenClaim := { program := "ytepaiolhflpmeaadoor", sum := "8c998f0a0be821798c504af27cd139fca596b7b0d77cf18a77d2cc872ea9d646", func := "newel/newellaw07.SunTells", spec := "sunTells", unfollowed := true, recurses := true, named := ["newel/greg.monthDays"], apart := false, laid := [("newel/greg.monthDays", laid_newel_greg_monthDays)], narrowed := true }
def SunTellsUptoSaid : Prop := sunTellsUptoRow.holds Tryd.pinned (OpenSpec.upto sunTellsSpec)

/-- 'newellaw07.SunMoments', WHERE WHAT IT READS IS OF BULK AT MOST 1048576: true; the input reads as it did. -/
def sunMomentsUptoRow : OpenClaim := { program := "ytepaiolhflpmeaadoor", sum := "8c998f0a0be821798c504af27cd139fca596b7b0d77cf18a77d2cc872ea9d646", func := "newel/newellaw07.SunMoments", spec := "sunMoments", unfollowed := true, recurses := true, named := ["newel/greg.monthDays"], apart := false, laid := [("newel/greg.monthDays", laid_newel_greg_monthDays)], narrowed := true }
def SunMomentsUptoSaid : Prop := sunMomentsUptoRow.holds Tryd.pinned (OpenSpec.upto sunMomentsSpec)

/-- 'newellaw07.SunLocal', WHERE WHAT IT READS IS OF BULK AT MOST 1048576: true; the input reads as it did. -/
def sunLocalUptoRow : OpenClaim := { program := "ytepaiolhflpmeaadoor", sum := "8c998f0a0be821798c504af27cd139fca596b7b0d77cf18a77d2cc872ea9d646", func := "newel/newellaw07.SunLocal", spec := "sunLocal", unfollowed := true, recurses := true, named := ["newel/greg.monthDays"], apart := false, laid := [("newel/greg.monthDays", laid_newel_greg_monthDays)], narrowed := true }
def SunLocalUptoSaid : Prop := sunLocalUptoRow.holds Tryd.pinned (OpenSpec.upto sunLocalSpec)

end Rows
end Go.Proofs.YtepaiolhflpmeaaDoor
