/-
  What the calls of layer 1 answer, call by call: the contracts of the functions that the statements of this seat go through. Conditions: the numbers are ints, as each theorem says.
-/
import Derived.Test.YtmjedpaiccaddaaSp
import Derived.Test.YtmjedpaiccaddaaRows
import Derived.WalkKit
import Derived.Lib.Hide
import Derived.ProofKit
import Derived.OpenShut
import Derived.Outline
import Derived.Deep.QuietTactic
import Derived.BigQuiet
namespace Go.Proofs.Ytmjedpaiccaddaa.Divs
open Go.ChangeShapes Go.WideShapes Go.ChangeAt Go.RowKit

theorem grown_drewN (w : World) (n : Nat) : Grown w (w.drewN n) := Grown.refl w

theorem ret1 {a b : Int} (h : a = b) : Ending.returned (.int .i64 a) = .returned (.int .i64 b) := by rw [h]

theorem ret2 {a b c d : Int} (h1 : a = c) (h2 : b = d) : Ending.returned (.tuple #[.int .i64 a, .int .i64 b]) = .returned (.tuple #[.int .i64 c, .int .i64 d]) := by rw [h1, h2]

def clampI (n lo hi : Int) : Int := if n < lo ∨ hi < lo then lo else if hi < n then hi else n

end Go.Proofs.Ytmjedpaiccaddaa.Divs
