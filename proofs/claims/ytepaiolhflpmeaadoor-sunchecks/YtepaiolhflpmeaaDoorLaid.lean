/-
  Where the table of months lies, and that it lies there in every later world. No condition but those that each theorem states.
-/
import Derived.Test.YtepaiolhflpmeaaDoorNext
import Derived.Test.YtepaiolhflpmeaaDoorCal
import Derived.Test.YtepaiolhflpmeaaDoorGrow
namespace Go.Proofs.YtepaiolhflpmeaaDoor.Greg
open Go.ChangeShapes Go.WideShapes Go.ChangeAt Go.RowKit
open Go.Proofs.YtepaiolhflpmeaaDoor.Divs Go.Proofs.YtepaiolhflpmeaaDoor.Grow

/-- What the months of a common year have stands in the variable's cells. -/
def Laid (w : World) : Prop := ∀ i : Nat, i < 12 → w.cell? ⟨0, i, none⟩ = some (.int .i64 (Cal.tab ((i : Int) + 1)))

theorem Laid.grown {w w' : World} (h : Laid w) (hg : Later w w') : Laid w' := fun i hi => gsome hg (h i hi)

theorem Laid.gw {w : World} (h : Laid w) (x : Gw w) : Laid x.w' := h.grown x.h

end Go.Proofs.YtepaiolhflpmeaaDoor.Greg
