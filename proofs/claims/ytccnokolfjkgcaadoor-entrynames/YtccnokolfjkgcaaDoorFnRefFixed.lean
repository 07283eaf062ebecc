/-
  Walk of newsreelref1.Fixed.
-/
import Derived.Test.YtccnokolfjkgcaaDoorFixM
namespace Go.Proofs.YtccnokolfjkgcaaDoor
open Go.RowKit NumMath
set_option maxRecDepth 100000
set_option linter.unusedVariables false
set_option linter.unusedSimpArgs false

theorem two8 (k : Nat) : (2 : Int) ^ (8 * k) = 256 ^ k := by rw [Int.pow_mul]; rfl

end Go.Proofs.YtccnokolfjkgcaaDoor
