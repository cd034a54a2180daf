/-
  NARROWER THAN 'FOR EVERY INPUT', by the rows' own cells (each row's printed sentence says how): GregTells: laid · GregDates: laid · GregNths: laid · GregBack: laid · GregNext: laid · GregAges: laid · GregLast: laid.
  DERIVED. THE GIVEN ROWS OF THIS SEAT. 7 by the template 'for every input the law returns true; each argument reads behind the call as it read before'; 0 by the template 'total and deterministic' (their statements: YthbgkojmkllagaaDoorTotals.lean).
  GIVEN WITH THE SEED: the statements are not yours to turn. If you find one false, say at which input.
  Laid BY PROGRAM, IN A SANDBOX (cutbox-rows.mjs): the forced cells as the released guide's own fill.sh prints them over the translation b90b524517c94aae… (all of the seat's roots in one cut). By AI agents, Wed Nov 11 2026. No macro, syntax, notation, axiom, sorry.
-/
import Derived.Test.YthbgkojmkllagaaDoorChecked
import GoSem.Claim
import GoSem.ClaimJoined
import GoSem.ClaimMapViews
import Derived.JoinedTies
import Derived.KernelRfl
namespace Go.Proofs.YthbgkojmkllagaaDoor
/- THE CELL 'sum', in the pinned program and in every row, IS THE sha256 OF THE DUMP (.gsa) THAT YthbgkojmkllagaaDoorProg.lean LOADS. Nothing in Lean hashes anything: it is a label: what it is worth is what the hold of that sum in a sandbox is worth. -/
noncomputable def Tryd.pinned : Pinned := { name := "ythbgkojmkllagaadoor", sum := "b90b524517c94aae5f2c66c7747f48237d1fe33dafcce2648ccfaf44f147b6bd", checked := Tryd.checked }
namespace Rows
def none {H : Type} : Left H := { results := [], args := [] }

/- WHAT THE LISTED PACKAGE-LEVEL VARIABLES READ AS WHEN THE CALL BEGINS. Each datum BY PROGRAM (the guide's laid-datum.mjs) off the statement by which the dump's own 'gosem.cut.vars' lays the variable. In a bare row this is a premise. The card (YthbgkojmkllagaaDoorCards.lean) ties it to the program's text. -/
def laid_newel_greg_monthDays {H : Type} : DataW H := .agg [.lit (.int .i64 31), .lit (.int .i64 28), .lit (.int .i64 31), .lit (.int .i64 30), .lit (.int .i64 31), .lit (.int .i64 30), .lit (.int .i64 31), .lit (.int .i64 31), .lit (.int .i64 30), .lit (.int .i64 31), .lit (.int .i64 30), .lit (.int .i64 31)]

/-- 'newellaw02.GregTells': WHATEVER THE INPUT: true; the input reads as it did. -/
def gregTellsSpec : ChangeSpec := { name := "gregTells", fn := fun _ => fun
  | [d1, d2] => { results := [.lit (.bool true)], args := [d1, d2] }
  | _ => none }
def gregTellsRow : OpenClaim := { program := "ythbgkojmkllagaadoor", sum := "b90b524517c94aae5f2c66c7747f48237d1fe33dafcce2648ccfaf44f147b6bd", func := "newel/newellaw02.GregTells", spec := "gregTells", named := ["newel/greg.monthDays"], apart := false, laid := [("newel/greg.monthDays", laid_newel_greg_monthDays)] }
def GregTellsSaid : Prop := gregTellsRow.holds Tryd.pinned (OpenSpec.ofChange gregTellsSpec)

/-- ITS FALSE NEIGHBOUR: 'it returns false'. Refute it at one input. -/
def gregTellsWrong : ChangeSpec := { name := "gregTells", fn := fun _ => fun
  | [d1, d2] => { results := [.lit (.bool false)], args := [d1, d2] }
  | _ => none }
def GregTellsWrongFalsely : Prop := gregTellsRow.holds Tryd.pinned (OpenSpec.ofChange gregTellsWrong)

/-- 'newellaw02.GregDates': WHATEVER THE INPUT: true; the input reads as it did. -/
def gregDatesSpec : ChangeSpec := { name := "gregDates", fn := fun _ => fun
  | [d] => { results := [.lit (.bool true)], args := [d] }
  | _ => none }
def gregDatesRow : OpenClaim := { program := "ythbgkojmkllagaadoor", sum := "b90b524517c94aae5f2c66c7747f48237d1fe33dafcce2648ccfaf44f147b6bd", func := "newel/newellaw02.GregDates", spec := "gregDates", named := ["newel/greg.monthDays"], apart := false, laid := [("newel/greg.monthDays", laid_newel_greg_monthDays)] }
def GregDatesSaid : Prop := gregDatesRow.holds Tryd.pinned (OpenSpec.ofChange gregDatesSpec)

/-- ITS FALSE NEIGHBOUR: 'it returns false'. Refute it at one input. -/
def gregDatesWrong : ChangeSpec := { name := "gregDates", fn := fun _ => fun
  | [d] => { results := [.lit (.bool false)], args := [d] }
  | _ => none }
def GregDatesWrongFalsely : Prop := gregDatesRow.holds Tryd.pinned (OpenSpec.ofChange gregDatesWrong)

/-- 'newellaw02.GregNths': WHATEVER THE INPUT: true; the input reads as it did. -/
def gregNthsSpec : ChangeSpec := { name := "gregNths", fn := fun _ => fun
  | [d1, d2, d3] => { results := [.lit (.bool true)], args := [d1, d2, d3] }
  | _ => none }
def gregNthsRow : OpenClaim := { program := "ythbgkojmkllagaadoor", sum := "b90b524517c94aae5f2c66c7747f48237d1fe33dafcce2648ccfaf44f147b6bd", func := "newel/newellaw02.GregNths", spec := "gregNths", named := ["newel/greg.monthDays"], apart := false, laid := [("newel/greg.monthDays", laid_newel_greg_monthDays)] }
def GregNthsSaid : Prop := gregNthsRow.holds Tryd.pinned (OpenSpec.ofChange gregNthsSpec)

/-- ITS FALSE NEIGHBOUR: 'it returns false'. Refute it at one input. -/
def gregNthsWrong : ChangeSpec := { name := "gregNths", fn := fun _ => fun
  | [d1, d2, d3] => { results := [.lit (.bool false)], args := [d1, d2, d3] }
  | _ => none }
def GregNthsWrongFalsely : Prop := gregNthsRow.holds Tryd.pinned (OpenSpec.ofChange gregNthsWrong)

/-- 'newellaw02.GregBack': WHATEVER THE INPUT: true; the input reads as it did. -/
def gregBackSpec : ChangeSpec := { name := "gregBack", fn := fun _ => fun
  | [d1, d2] => { results := [.lit (.bool true)], args := [d1, d2] }
  | _ => none }
def gregBackRow : OpenClaim := { program := "ythbgkojmkllagaadoor", sum := "b90b524517c94aae5f2c66c7747f48237d1fe33dafcce2648ccfaf44f147b6bd", func := "newel/newellaw02.GregBack", spec := "gregBack", named := ["newel/greg.monthDays"], apart := false, laid := [("newel/greg.monthDays", laid_newel_greg_monthDays)] }
def GregBackSaid : Prop := gregBackRow.holds Tryd.pinned (OpenSpec.ofChange gregBackSpec)

/-- ITS FALSE NEIGHBOUR: 'it returns false'. Refute it at one input. -/
def gregBackWrong : ChangeSpec := { name := "gregBack", fn := fun _ => fun
  | [d1, d2] => { results := [.lit (.bool false)], args := [d1, d2] }
  | _ => none }
def GregBackWrongFalsely : Prop := gregBackRow.holds Tryd.pinned (OpenSpec.ofChange gregBackWrong)

/-- 'newellaw02.GregNext': WHATEVER THE INPUT: true; the input reads as it did. -/
def gregNextSpec : ChangeSpec := { name := "gregNext", fn := fun _ => fun
  | [d] => { results := [.lit (.bool true)], args := [d] }
  | _ => none }
def gregNextRow : OpenClaim := { program := "ythbgkojmkllagaadoor", sum := "b90b524517c94aae5f2c66c7747f48237d1fe33dafcce2648ccfaf44f147b6bd", func := "newel/newellaw02.GregNext", spec := "gregNext", named := ["newel/greg.monthDays"], apart := false, laid := [("newel/greg.monthDays", laid_newel_greg_monthDays)] }
def GregNextSaid : Prop := gregNextRow.holds Tryd.pinned (OpenSpec.ofChange gregNextSpec)

/-- ITS FALSE NEIGHBOUR: 'it returns false'. Refute it at one input. -/
def gregNextWrong : ChangeSpec := { name := "gregNext", fn := fun _ => fun
  | [d] => { results := [.lit (.bool false)], args := [d] }
  | _ => none }
def GregNextWrongFalsely : Prop := gregNextRow.holds Tryd.pinned (OpenSpec.ofChange gregNextWrong)

/-- 'newellaw02.GregAges': WHATEVER THE INPUT: true; the input reads as it did. -/
def gregAgesSpec : ChangeSpec := { name := "gregAges", fn := fun _ => fun
  | [d] => { results := [.lit (.bool true)], args := [d] }
  | _ => none }
def gregAgesRow : OpenClaim := { program := "ythbgkojmkllagaadoor", sum := "b90b524517c94aae5f2c66c7747f48237d1fe33dafcce2648ccfaf44f147b6bd", func := "newel/newellaw02.GregAges", spec := "gregAges", named := ["newel/greg.monthDays"], apart := false, laid := [("newel/greg.monthDays", laid_newel_greg_monthDays)] }
def GregAgesSaid : Prop := gregAgesRow.holds Tryd.pinned (OpenSpec.ofChange gregAgesSpec)

/-- ITS FALSE NEIGHBOUR: 'it returns false'. Refute it at one input. -/
def gregAgesWrong : ChangeSpec := { name := "gregAges", fn := fun _ => fun
  | [d] => { results := [.lit (.bool false)], args := [d] }
  | _ => none }
def GregAgesWrongFalsely : Prop := gregAgesRow.holds Tryd.pinned (OpenSpec.ofChange gregAgesWrong)

/-- 'newellaw02.GregLast': WHATEVER THE INPUT: true; the input reads as it did. -/
def gregLastSpec : ChangeSpec := { name := "gregLast", fn := fun _ => fun
  | [d1, d2] => { results := [.lit (.bool true)], args := [d1, d2] }
  | _ => none }
def gregLastRow : OpenClaim := { program := "ythbgkojmkllagaadoor", sum := "b90b524517c94aae5f2c66c7747f48237d1fe33dafcce2648ccfaf44f147b6bd", func := "newel/newellaw02.GregLast", spec := "gregLast", named := ["newel/greg.monthDays"], apart := false, laid := [("newel/greg.monthDays", laid_newel_greg_monthDays)] }
def GregLastSaid : Prop := gregLastRow.holds Tryd.pinned (OpenSpec.ofChange gregLastSpec)

/-- ITS FALSE NEIGHBOUR: 'it returns false'. Refute it at one input. -/
def gregLastWrong : ChangeSpec := { name := "gregLast", fn := fun _ => fun
  | [d1, d2] => { results := [.lit (.bool false)], args := [d1, d2] }
  | _ => none }
def GregLastWrongFalsely : Prop := gregLastRow.holds Tryd.pinned (OpenSpec.ofChange gregLastWrong)

/- THE SECOND FORM. 'bulk': how many values and letters a reading holds, each counted each time it is reached (what is shared counts as often as it is met; a slice's spare places count too). A statement '..UptoSaid' is the law's where the arguments, and the package variables that the reading takes, are together of bulk at most 1048576: NARROWER than '..Said'. Prove '..Said' where nothing that the law and all that it calls make is longer than what came in: it says more and counts as full. Else prove '..UptoSaid'. A law counts once. -/
mutual
def uptoBulk {H : Type} : DataW H → Nat
  | .lit (.string bytes) => bytes.length + 1
  | .lit _ => 1
  | .nil => 1
  | .ptr d => uptoBulk d + 1
  | .slice elems spare => uptoBulkAll elems + uptoBulkAll spare + 1
  | .agg parts => uptoBulkAll parts + 1
  | .iface _ d => uptoBulk d + 1
  | .map entries => uptoBulkEntries entries + 1
  | .held _ => 1
def uptoBulkAll {H : Type} : List (DataW H) → Nat
  | [] => 0
  | d :: r => uptoBulk d + uptoBulkAll r
def uptoBulkEntries {H : Type} : List (Lit × DataW H) → Nat
  | [] => 0
  | x :: r => uptoBulkEntry x + uptoBulkEntries r
def uptoBulkEntry {H : Type} : Lit × DataW H → Nat
  | (.string bytes, d) => bytes.length + uptoBulk d + 1
  | (_, d) => uptoBulk d + 1
 end
def uptoSmall : (H : Type) → List (DataW H) → Bool := fun _ ds => decide (uptoBulkAll ds ≤ 1048576)
def OpenSpec.upto (s : _root_.Go.ChangeSpec) : _root_.Go.OpenSpec := { _root_.Go.OpenSpec.ofChange s with cond := some uptoSmall }

/-- 'newellaw02.GregTells', WHERE WHAT IT READS IS OF BULK AT MOST 1048576: true; the input reads as it did. -/
def gregTellsUptoRow : OpenClaim := { program := "ythbgkojmkllagaadoor", sum := "b90b524517c94aae5f2c66c7747f48237d1fe33dafcce2648ccfaf44f147b6bd", func := "newel/newellaw02.GregTells", spec := "gregTells", named := ["newel/greg.monthDays"], apart := false, laid := [("newel/greg.monthDays", laid_newel_greg_monthDays)], narrowed := true }
def GregTellsUptoSaid : Prop := gregTellsUptoRow.holds Tryd.pinned (OpenSpec.upto gregTellsSpec)

/-- 'newellaw02.GregDates', WHERE WHAT IT READS IS OF BULK AT MOST 1048576: true; the input reads as it did. -/
def gregDatesUptoRow : OpenClaim := { program := "ythbgkojmkllagaadoor", sum := "b90b524517c94aae5f2c66c7747f48237d1fe33dafcce2648ccfaf44f147b6bd", func := "newel/newellaw02.GregDates", spec := "gregDates", named := ["newel/greg.monthDays"], apart := false, laid := [("newel/greg.monthDays", laid_newel_greg_monthDays)], narrowed := true }
def GregDatesUptoSaid : Prop := gregDatesUptoRow.holds Tryd.pinned (OpenSpec.upto gregDatesSpec)

/-- 'newellaw02.GregNths', WHERE WHAT IT READS IS OF BULK AT MOST 1048576: true; the input reads as it did. -/
def gregNthsUptoRow : OpenClaim := { program := "ythbgkojmkllagaadoor", sum := "b90b524517c94aae5f2c66c7747f48237d1fe33dafcce2648ccfaf44f147b6bd", func := "newel/newellaw02.GregNths", spec := "gregNths", named := ["newel/greg.monthDays"], apart := false, laid := [("newel/greg.monthDays", laid_newel_greg_monthDays)], narrowed := true }
def GregNthsUptoSaid : Prop := gregNthsUptoRow.holds Tryd.pinned (OpenSpec.upto gregNthsSpec)

/-- 'newellaw02.GregBack', WHERE WHAT IT READS IS OF BULK AT MOST 1048576: true; the input reads as it did. -/
def gregBackUptoRow : OpenClaim := { program := "ythbgkojmkllagaadoor", sum := "b90b524517c94aae5f2c66c7747f48237d1fe33dafcce2648ccfaf44f147b6bd", func := "newel/newellaw02.GregBack", spec := "gregBack", named := ["newel/greg.monthDays"], apart := false, laid := [("newel/greg.monthDays", laid_newel_greg_monthDays)], narrowed := true }
def GregBackUptoSaid : Prop := gregBackUptoRow.holds Tryd.pinned (OpenSpec.upto gregBackSpec)

/-- 'newellaw02.GregNext', WHERE WHAT IT READS IS OF BULK AT MOST 1048576: true; the input reads as it did. -/
def gregNextUptoRow : OpenClaim := { program := "ythbgkojmkllagaadoor", sum := "b90b524517c94aae5f2c66c7747f48237d1fe33dafcce2648ccfaf44f147b6bd", func := "newel/newellaw02.GregNext", spec := "gregNext", named := ["newel/greg.monthDays"], apart := false, laid := [("newel/greg.monthDays", laid_newel_greg_monthDays)], narrowed := true }
def GregNextUptoSaid : Prop := gregNextUptoRow.holds Tryd.pinned (OpenSpec.upto gregNextSpec)

/-- 'newellaw02.GregAges', WHERE WHAT IT READS IS OF BULK AT MOST 1048576: true; the input reads as it did. -/
def gregAgesUptoRow : OpenClaim := { program := "ythbgkojmkllagaadoor", sum := "b90b524517c94aae5f2c66c7747f48237d1fe33dafcce2648ccfaf44f147b6bd", func := "newel/newellaw02.GregAges", spec := "gregAges", named := ["newel/greg.monthDays"], apart := false, laid := [("newel/greg.monthDays", laid_newel_greg_monthDays)], narrowed := true }
def GregAgesUptoSaid : Prop := gregAgesUptoRow.holds Tryd.pinned (OpenSpec.upto gregAgesSpec)

/-- 'newellaw02.GregLast', WHERE WHAT IT READS IS OF BULK AT MOST 1048576: true; the input reads as it did. -/
def gregLastUptoRow : OpenClaim := { program := "ythbgkojmkllagaadoor", sum := "b90b524517c94aae5f2c66c7747f48237d1fe33dafcce2648ccfaf44f147b6bd", func := "newel/newellaw02.GregLast", spec := "gregLast", named := ["newel/greg.monthDays"], apart := false, laid := [("newel/greg.monthDays", laid_newel_greg_monthDays)], narrowed := true }
def GregLastUptoSaid : Prop := gregLastUptoRow.holds Tryd.pinned (OpenSpec.upto gregLastSpec)

end Rows
end Go.Proofs.YthbgkojmkllagaaDoor
