/-
  What Day, Of and Nth of layer 2 answer. Conditions: the numbers are ints, the table of months lies where the program lays it, as each theorem says.
-/
import Derived.Test.YthmlaidmbcgmdaaDoorMonth
namespace Go.Proofs.YthmlaidmbcgmdaaDoor.Greg
open Go.ChangeShapes Go.WideShapes Go.ChangeAt Go.RowKit
open Go.Proofs.YthmlaidmbcgmdaaDoor.Divs Go.Proofs.YthmlaidmbcgmdaaDoor.Grow
open Go.Proofs.YthmlaidmbcgmdaaDoor.Cal (lp ln tab dm ya ma dn yr mo om od)

end Go.Proofs.YthmlaidmbcgmdaaDoor.Greg
