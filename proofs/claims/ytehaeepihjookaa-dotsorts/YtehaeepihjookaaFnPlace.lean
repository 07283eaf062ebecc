/-
  Walk of newsreelhelp.Place: a number from 0 to n - 1 out of any number.
-/
import Derived.Test.YtehaeepihjookaaKit
namespace Go.Proofs.Ytehaeepihjookaa
open Go.RowKit NumMath
set_option maxRecDepth 100000
set_option linter.unusedVariables false
set_option linter.unusedSimpArgs false

theorem tmod_or (k : Int) (n : Nat) : k.tmod (n : Int) = k % (n : Int) ∨ k.tmod (n : Int) = k % (n : Int) - (n : Int) := by
  rw [Int.tmod_eq_emod]
  split
  · left; omega
  · right; simp

end Go.Proofs.Ytehaeepihjookaa
