/-
  ShaTab.
-/
import Derived.Test.YteockpllnhjooaaGreatDoorQ05
namespace Go.Proofs.YteockpllnhjooaaGreatDoor
open Go.RowKit
set_option maxRecDepth 100000
set_option linter.unusedVariables false

/-- The document's own table. -/
def RefTab (w : World) : Prop := ∀ i, i < 64 → w.cell? ⟨1, i, none⟩ = some (.int .u32 ((ShaMath.keys[i]?.getD 0 : Nat) : Int))
/-- All listed variables. -/
def Tabs3 (w : World) : Prop := Tabs w ∧ RefTab w
theorem RefTab.later {w w' : World} {B : Nat} (h : RefTab w) (hb : Below B w w') (hB : 2 < B) : RefTab w' := fun i hi => by
  rw [hb.cell (by show 1 < B; omega)]; exact h i hi
end Go.Proofs.YteockpllnhjooaaGreatDoor
