/-
  What the world's shape gives: the library's own variable holds some number. And a world in which the library's tables lie, for the witness.
-/
import Derived.Test.YtibhckghimepkaaDoorCutKit
import Derived.Test.YtibhckghimepkaaDoorCards
import Derived.Test.YtibhckghimepkaaDoorTie
import Derived.Shelf.Vars
import Derived.Lib.LaidU8
import Derived.LaidSub
import Derived.MakeChecks
namespace Go.Proofs.YtibhckghimepkaaDoor
open Go.RowKit NumMath
set_option linter.unusedVariables false
set_option linter.unusedSimpArgs false

theorem maxLen_of_shape {W : World} (h : W.ShapedOpen Tryd.prog) : MaxLen W :=
  cell_of_shapedOpen_int (g := 0) (t := 3) (zero := #[.int .i64 0]) h (of_decide_eq_true (by kernel_rfl)) (by kernel_rfl) rfl (by kernel_rfl) (by kernel_rfl) Tryd.underlying3
/-- A world in which the tables lie as their initialisers lay them. -/
noncomputable def layIn (cs : Array Value) (g : Nat) (h : Array Obj) : Array Obj := h.modify g fun
  | .cells _ t frozen => .cells cs t frozen
  | o => o
noncomputable def laidWorld (os : Os) : World :=
  { World.holding Tryd.prog os ⟨#[], #[], []⟩ with heap := layIn (Lib.firstTab.map (Value.int .u8)).toArray 1 (layIn ((List.range 16).flatMap fun i => [Value.int .u8 (Lib.accLo i : Int), Value.int .u8 (Lib.accHi i : Int)]).toArray 2 (World.holding Tryd.prog os ⟨#[], #[], []⟩).heap) }
end Go.Proofs.YtibhckghimepkaaDoor
