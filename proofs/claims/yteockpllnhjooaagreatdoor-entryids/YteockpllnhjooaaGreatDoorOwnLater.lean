/-
  A row of the call itself, later.
-/
import Derived.Test.YteockpllnhjooaaGreatDoorValKit
namespace Go.Proofs.YteockpllnhjooaaGreatDoor
open Go.RowKit NumMath
set_option maxRecDepth 100000
set_option linter.unusedVariables false
set_option linter.unusedSimpArgs false
theorem Own.later {w w' : World} {base e : Nat} {v : Value} {vs : List Value} (h : Own w base e v vs) (hb : Below w.heap.size w w') : Own w' base e v vs := by
  refine ⟨h.1, ?_⟩
  rcases h.2 with h2 | ⟨g, cap, cur, h2, h3, h4, h5⟩
  · exact .inl h2
  · refine .inr ⟨g, cap, cur, h2, h3, ?_, h5⟩
    rw [hb.block g (Array.getElem?_eq_some_iff.1 h4).1]
    exact h4
end Go.Proofs.YteockpllnhjooaaGreatDoor
