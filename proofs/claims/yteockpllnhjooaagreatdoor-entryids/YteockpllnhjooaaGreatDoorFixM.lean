/-
  How many bytes are asked of Fixed.
-/
import Derived.Test.YteockpllnhjooaaGreatDoorKit
import Derived.Test.YteockpllnhjooaaGreatDoorMathG
namespace Go.Proofs.YteockpllnhjooaaGreatDoor
open Go.RowKit NumMath
set_option maxRecDepth 100000
set_option linter.unusedVariables false
set_option linter.unusedSimpArgs false

/-- How many bytes are asked for: n held to 0 to 8. -/
def held (n : Int) : Nat := (min (max n 0) 8).toNat

theorem held_cases (n : Int) : (n < 0 ∧ held n = 0) ∨ (8 < n ∧ held n = 8) ∨ (n = (held n : Int) ∧ held n ≤ 8) := by
  unfold held; omega

theorem rep_set (c : Nat) (S : List Int) (x : Int) : (List.replicate (c + 1) (0 : Int) ++ S).set c x = List.replicate c 0 ++ (x :: S) := by
  rw [List.replicate_succ', List.append_assoc, List.set_append]
  simp

end Go.Proofs.YteockpllnhjooaaGreatDoor
