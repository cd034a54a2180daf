/-
  No cell of these rows narrows 'for every input' (looked for: loops, veiled, ifaces, maps, wideKeys, modest, calm, conditions, laid).
  DERIVED. THE GIVEN ROWS OF THIS SEAT. 6 by the template 'for every input the law returns true; each argument reads behind the call as it read before'; 0 by the template 'total and deterministic' (their statements: YtnaacmmliodenaaTotals.lean).
  GIVEN WITH THE SEED: the statements are not yours to turn. If you find one false, say at which input.
  Laid BY PROGRAM, IN A SANDBOX (cutbox-rows.mjs): the forced cells as the released guide's own fill.sh prints them over the translation f5784b941abfe5c3… (all of the seat's roots in one cut). By AI agents, Wed Nov 11 2026. No macro, syntax, notation, axiom, sorry.
-/
import Derived.Test.YtnaacmmliodenaaChecked
import GoSem.Claim
import GoSem.ClaimJoined
import GoSem.ClaimMapViews
import Derived.JoinedTies
import Derived.KernelRfl
namespace Go.Proofs.Ytnaacmmliodenaa
/- THE CELL 'sum', in the pinned program and in every row, IS THE sha256 OF THE DUMP (.gsa) THAT YtnaacmmliodenaaProg.lean LOADS. Nothing in Lean hashes anything: it is a label: what it is worth is what the hold of that sum in a sandbox is worth. -/
noncomputable def Try.pinned : Pinned := { name := "ytnaacmmliodenaa", sum := "f5784b941abfe5c3a2b4f022889b63ee193166b5ca68f55f40e5c8846ff61959", checked := Try.checked }
namespace Rows
def none {H : Type} : Left H := { results := [], args := [] }

/-- 'newellaw04.HebrewMonths': WHATEVER THE INPUT: true; the input reads as it did. -/
def hebrewMonthsSpec : ChangeSpec := { name := "hebrewMonths", fn := fun _ => fun
  | [d1, d2] => { results := [.lit (.bool true)], args := [d1, d2] }
  | _ => none }
def hebrewMonthsRow : OpenClaim := { program := "ytnaacmmliodenaa", sum := "f5784b941abfe5c3a2b4f022889b63ee193166b5ca68f55f40e5c8846ff61959", func := "newel/newellaw04.HebrewMonths", spec := "hebrewMonths", unfollowed := true, recurses := true, apart := false }
def HebrewMonthsSaid : Prop := hebrewMonthsRow.holds Try.pinned (OpenSpec.ofChange hebrewMonthsSpec)

/-- ITS FALSE NEIGHBOUR: 'it returns false'. Refute it at one input. -/
def hebrewMonthsWrong : ChangeSpec := { name := "hebrewMonths", fn := fun _ => fun
  | [d1, d2] => { results := [.lit (.bool false)], args := [d1, d2] }
  | _ => none }
def HebrewMonthsWrongFalsely : Prop := hebrewMonthsRow.holds Try.pinned (OpenSpec.ofChange hebrewMonthsWrong)

/-- 'newellaw04.HebrewDays': WHATEVER THE INPUT: true; the input reads as it did. -/
def hebrewDaysSpec : ChangeSpec := { name := "hebrewDays", fn := fun _ => fun
  | [d] => { results := [.lit (.bool true)], args := [d] }
  | _ => none }
def hebrewDaysRow : OpenClaim := { program := "ytnaacmmliodenaa", sum := "f5784b941abfe5c3a2b4f022889b63ee193166b5ca68f55f40e5c8846ff61959", func := "newel/newellaw04.HebrewDays", spec := "hebrewDays", unfollowed := true, recurses := true, apart := false }
def HebrewDaysSaid : Prop := hebrewDaysRow.holds Try.pinned (OpenSpec.ofChange hebrewDaysSpec)

/-- ITS FALSE NEIGHBOUR: 'it returns false'. Refute it at one input. -/
def hebrewDaysWrong : ChangeSpec := { name := "hebrewDays", fn := fun _ => fun
  | [d] => { results := [.lit (.bool false)], args := [d] }
  | _ => none }
def HebrewDaysWrongFalsely : Prop := hebrewDaysRow.holds Try.pinned (OpenSpec.ofChange hebrewDaysWrong)

/-- 'newellaw04.HebrewDates': WHATEVER THE INPUT: true; the input reads as it did. -/
def hebrewDatesSpec : ChangeSpec := { name := "hebrewDates", fn := fun _ => fun
  | [d] => { results := [.lit (.bool true)], args := [d] }
  | _ => none }
def hebrewDatesRow : OpenClaim := { program := "ytnaacmmliodenaa", sum := "f5784b941abfe5c3a2b4f022889b63ee193166b5ca68f55f40e5c8846ff61959", func := "newel/newellaw04.HebrewDates", spec := "hebrewDates", unfollowed := true, recurses := true, apart := false }
def HebrewDatesSaid : Prop := hebrewDatesRow.holds Try.pinned (OpenSpec.ofChange hebrewDatesSpec)

/-- ITS FALSE NEIGHBOUR: 'it returns false'. Refute it at one input. -/
def hebrewDatesWrong : ChangeSpec := { name := "hebrewDates", fn := fun _ => fun
  | [d] => { results := [.lit (.bool false)], args := [d] }
  | _ => none }
def HebrewDatesWrongFalsely : Prop := hebrewDatesRow.holds Try.pinned (OpenSpec.ofChange hebrewDatesWrong)

/-- 'newellaw04.HebrewNext': WHATEVER THE INPUT: true; the input reads as it did. -/
def hebrewNextSpec : ChangeSpec := { name := "hebrewNext", fn := fun _ => fun
  | [d] => { results := [.lit (.bool true)], args := [d] }
  | _ => none }
def hebrewNextRow : OpenClaim := { program := "ytnaacmmliodenaa", sum := "f5784b941abfe5c3a2b4f022889b63ee193166b5ca68f55f40e5c8846ff61959", func := "newel/newellaw04.HebrewNext", spec := "hebrewNext", unfollowed := true, recurses := true, apart := false }
def HebrewNextSaid : Prop := hebrewNextRow.holds Try.pinned (OpenSpec.ofChange hebrewNextSpec)

/-- ITS FALSE NEIGHBOUR: 'it returns false'. Refute it at one input. -/
def hebrewNextWrong : ChangeSpec := { name := "hebrewNext", fn := fun _ => fun
  | [d] => { results := [.lit (.bool false)], args := [d] }
  | _ => none }
def HebrewNextWrongFalsely : Prop := hebrewNextRow.holds Try.pinned (OpenSpec.ofChange hebrewNextWrong)

/-- 'newellaw04.HebrewSum': WHATEVER THE INPUT: true; the input reads as it did. -/
def hebrewSumSpec : ChangeSpec := { name := "hebrewSum", fn := fun _ => fun
  | [d] => { results := [.lit (.bool true)], args := [d] }
  | _ => none }
def hebrewSumRow : OpenClaim := { program := "ytnaacmmliodenaa", sum := "f5784b941abfe5c3a2b4f022889b63ee193166b5ca68f55f40e5c8846ff61959", func := "newel/newellaw04.HebrewSum", spec := "hebrewSum", unfollowed := true, recurses := true, apart := false }
def HebrewSumSaid : Prop := hebrewSumRow.holds Try.pinned (OpenSpec.ofChange hebrewSumSpec)

/-- ITS FALSE NEIGHBOUR: 'it returns false'. Refute it at one input. -/
def hebrewSumWrong : ChangeSpec := { name := "hebrewSum", fn := fun _ => fun
  | [d] => { results := [.lit (.bool false)], args := [d] }
  | _ => none }
def HebrewSumWrongFalsely : Prop := hebrewSumRow.holds Try.pinned (OpenSpec.ofChange hebrewSumWrong)

/-- 'newellaw04.HebrewSpring': WHATEVER THE INPUT: true; the input reads as it did. -/
def hebrewSpringSpec : ChangeSpec := { name := "hebrewSpring", fn := fun _ => fun
  | [d] => { results := [.lit (.bool true)], args := [d] }
  | _ => none }
def hebrewSpringRow : OpenClaim := { program := "ytnaacmmliodenaa", sum := "f5784b941abfe5c3a2b4f022889b63ee193166b5ca68f55f40e5c8846ff61959", func := "newel/newellaw04.HebrewSpring", spec := "hebrewSpring", unfollowed := true, recurses := true, apart := false }
def HebrewSpringSaid : Prop := hebrewSpringRow.holds Try.pinned (OpenSpec.ofChange hebrewSpringSpec)

/-- ITS FALSE NEIGHBOUR: 'it returns false'. Refute it at one input. -/
def hebrewSpringWrong : ChangeSpec := { name := "hebrewSpring", fn := fun _ => fun
  | [d] => { results := [.lit (.bool false)], args := [d] }
  | _ => none }
def HebrewSpringWrongFalsely : Prop := hebrewSpringRow.holds Try.pinned (OpenSpec.ofChange hebrewSpringWrong)

/- THE SECOND FORM. 'bulk': how many values and letters a reading holds, each counted each time it is reached (what is shared counts as often as it is met; a slice's spare places count too). A statement '..UptoSaid' is the law's where the arguments, and the package variables that the reading takes, are together of bulk at most 1048576: NARROWER than '..Said'. Prove '..Said' where nothing that the law and all that it calls make is longer than what came in: it says more and counts as full. Else prove '..UptoSaid'. A law counts once. -/
mutual
def uptoBulk {H : Type} : DataW H → Nat
  | .lit (.string bytes) => bytes.length + 1
  | .lit _ => 1
  | .nil => 1
  | .ptr d => uptoBulk d + 1
  | .slice elems spare => uptoBulkAll elems + uptoBulkAll spare + 1
  | .agg parts => uptoBulkAll parts + 1
  | .iface _ d => uptoBulk d + 1
  | .map entries => uptoBulkEntries entries + 1
  | .held _ => 1
def uptoBulkAll {H : Type} : List (DataW H) → Nat
  | [] => 0
  | d :: r => uptoBulk d + uptoBulkAll r
def uptoBulkEntries {H : Type} : List (Lit × DataW H) → Nat
  | [] => 0
  | x :: r => uptoBulkEntry x + uptoBulkEntries r
def uptoBulkEntry {H : Type} : Lit × DataW H → Nat
  | (.string bytes, d) => bytes.length + uptoBulk d + 1
  | (_, d) => uptoBulk d + 1
 end
def uptoSmall : (H : Type) → List (DataW H) → Bool := fun _ ds => decide (uptoBulkAll ds ≤ 1048576)
def OpenSpec.upto (s : _root_.Go.ChangeSpec) : _root_.Go.OpenSpec := { _root_.Go.OpenSpec.ofChange s with cond := some uptoSmall }

/-- 'newellaw04.HebrewMonths', WHERE WHAT IT READS IS OF BULK AT MOST 1048576: true; the input reads as it did. -/
def hebrewMonthsUptoRow : OpenClaim := { program := "ytnaacmmliodenaa", sum := "f5784b941abfe5c3a2b4f022889b63ee193166b5ca68f55f40e5c8846ff61959", func := "newel/newellaw04.HebrewMonths", spec := "hebrewMonths", unfollowed := true, recurses := true, apart := false, narrowed := true }
def HebrewMonthsUptoSaid : Prop := hebrewMonthsUptoRow.holds Try.pinned (OpenSpec.upto hebrewMonthsSpec)

/-- 'newellaw04.HebrewDays', WHERE WHAT IT READS IS OF BULK AT MOST 1048576: true; the input reads as it did. -/
def hebrewDaysUptoRow : OpenClaim := { program := "ytnaacmmliodenaa", sum := "f5784b941abfe5c3a2b4f022889b63ee193166b5ca68f55f40e5c8846ff61959", func := "newel/newellaw04.HebrewDays", spec := "hebrewDays", unfollowed := true, recurses := true, apart := false, narrowed := true }
def HebrewDaysUptoSaid : Prop := hebrewDaysUptoRow.holds Try.pinned (OpenSpec.upto hebrewDaysSpec)

/-- 'newellaw04.HebrewDates', WHERE WHAT IT READS IS OF BULK AT MOST 1048576: true; the input reads as it did. -/
def hebrewDatesUptoRow : OpenClaim := { program := "ytnaacmmliodenaa", sum := "f5784b941abfe5c3a2b4f022889b63ee193166b5ca68f55f40e5c8846ff61959", func := "newel/newellaw04.HebrewDates", spec := "hebrewDates", unfollowed := true, recurses := true, apart := false, narrowed := true }
def HebrewDatesUptoSaid : Prop := hebrewDatesUptoRow.holds Try.pinned (OpenSpec.upto hebrewDatesSpec)

/-- 'newellaw04.HebrewNext', WHERE WHAT IT READS IS OF BULK AT MOST 1048576: true; the input reads as it did. -/
def hebrewNextUptoRow : OpenClaim := { program := "ytnaacmmliodenaa", sum := "f5784b941abfe5c3a2b4f022889b63ee193166b5ca68f55f40e5c8846ff61959", func := "newel/newellaw04.HebrewNext", spec := "hebrewNext", unfollowed := true, recurses := true, apart := false, narrowed := true }
def HebrewNextUptoSaid : Prop := hebrewNextUptoRow.holds Try.pinned (OpenSpec.upto hebrewNextSpec)

/-- 'newellaw04.HebrewSum', WHERE WHAT IT READS IS OF BULK AT MOST 1048576: true; the input reads as it did. -/
def hebrewSumUptoRow : OpenClaim := { program := "ytnaacmmliodenaa", sum := "f5784b941abfe5c3a2b4f022889b63ee193166b5ca68f55f40e5c8846ff61959", func := "newel/newellaw04.HebrewSum", spec := "hebrewSum", unfollowed := true, recurses := true, apart := false, narrowed := true }
def HebrewSumUptoSaid : Prop := hebrewSumUptoRow.holds Try.pinned (OpenSpec.upto hebrewSumSpec)

/-- 'newellaw04.HebrewSpring', WHERE WHAT IT READS IS OF BULK AT MOST 1048576: true; the input reads as it did. -/
def hebrewSpringUptoRow : OpenClaim := { program := "ytnaacmmliodenaa", sum := "f5784b941abfe5c3a2b4f022889b63ee193166b5ca68f55f40e5c8846ff61959", func := "newel/newellaw04.HebrewSpring", spec := "hebrewSpring", unfollowed := true, recurses := true, apart := false, narrowed := true }
def HebrewSpringUptoSaid : Prop := hebrewSpringUptoRow.holds Try.pinned (OpenSpec.upto hebrewSpringSpec)

end Rows
end Go.Proofs.Ytnaacmmliodenaa
