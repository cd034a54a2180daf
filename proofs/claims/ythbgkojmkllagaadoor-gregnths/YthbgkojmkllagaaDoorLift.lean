/-
  From the condition on the table of months (what the program's own text lays there) to what the walks ask, and a start that meets it. No further condition.
-/
import Derived.Test.YthbgkojmkllagaaDoorRows
import Derived.Test.YthbgkojmkllagaaDoorTie
import Derived.Test.YthbgkojmkllagaaDoorCards
import Derived.Test.YthbgkojmkllagaaDoorRefNth
import Derived.ProofKit
import Derived.LaidMore
import Derived.OpenShut
import Derived.Stop.Joined
import Derived.Lib.LaidTab
import Derived.Lib.SmallJoins
import Derived.SevenTiedAt
namespace Go.Proofs.YthbgkojmkllagaaDoor.Greg
open Go.ChangeShapes Go.WideShapes Go.ChangeAt Go.RowKit

theorem own : ownKnob Tryd.prog.godebug = none := by kernel_rfl
theorem cells3 : Tryd.prog.cellsOf 3 = 1 := by kernel_rfl
theorem cells23 : Tryd.prog.cellsOf 23 = 3 := by kernel_rfl
theorem cells39 : Tryd.prog.cellsOf 39 = 12 := by kernel_rfl
theorem gMonths : Tryd.prog.globalNamed "newel/greg.monthDays" = some 0 := by kernel_rfl
theorem tMonths : (Tryd.prog.globals[0]?).map (·.type) = some 39 := by kernel_rfl

def laidL : List (String × DataW Unit) := [("newel/greg.monthDays", Rows.laid_newel_greg_monthDays)]

theorem of_laid {W : World} (h : laidMetH Tryd.prog laidL W) : Laid W := by
  unfold laidL at h
  rw [MakeChecks.laidMetH_plain _ _ _ (by kernel_rfl)] at h
  have t : Lib.TabIs Tryd.prog W "newel/greg.monthDays" .i64 [31, 28, 31, 30, 31, 30, 31, 31, 30, 31, 30, 31] :=
    Lib.tabIs_of_head (rest := []) gMonths tMonths Tryd.underlying39 Tryd.underlying3 cells3 cells39 h
  intro i hi
  rw [t.cell gMonths i (by simpa using hi)]
  obtain rfl | rfl | rfl | rfl | rfl | rfl | rfl | rfl | rfl | rfl | rfl | rfl : i = 0 ∨ i = 1 ∨ i = 2 ∨ i = 3 ∨ i = 4 ∨ i = 5 ∨ i = 6 ∨ i = 7 ∨ i = 8 ∨ i = 9 ∨ i = 10 ∨ i = 11 := by omega
  all_goals rfl

theorem door_met (os : Os) (args : Array Value) : laidMetH Tryd.prog laidL ((World.doorLaid Tryd.prog 400 os).forCall (fun _ _ => 0) ⟨#[], args, []⟩).memory :=
  laidMetH_of_parts3 (fuel := 8) (laidMet_of_run' 8 (by kernel_rfl) (by kernel_rfl)) (by kernel_rfl) (by kernel_rfl)

end Go.Proofs.YthbgkojmkllagaaDoor.Greg
