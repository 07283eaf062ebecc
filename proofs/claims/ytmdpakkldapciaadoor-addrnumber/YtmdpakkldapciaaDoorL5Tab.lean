/-
  What the world's shape gives: the library's own variable holds some number. And a world in which the library's tables lie, for the witness.
-/
import Derived.Test.YtmdpakkldapciaaDoorCutKit
import Derived.Test.YtmdpakkldapciaaDoorCards
import Derived.Test.YtmdpakkldapciaaDoorTie
import Derived.Shelf.Vars
import Derived.Lib.LaidU8
import Derived.LaidSub
import Derived.MakeChecks
namespace Go.Proofs.YtmdpakkldapciaaDoor
open Go.RowKit NumMath
set_option maxRecDepth 100000
set_option linter.unusedVariables false
set_option linter.unusedSimpArgs false

theorem maxLen_of_shape {W : World} (h : W.ShapedOpen Tryd.prog) : MaxLen W :=
  cell_of_shapedOpen_int (g := 0) (t := 3) (zero := #[.int .i64 0]) h (of_decide_eq_true (by kernel_rfl)) (by kernel_rfl) rfl (by kernel_rfl) (by kernel_rfl) Tryd.underlying3
/-- A world in which the tables lie as their initialisers lay them. -/
def layIn (cs : Array Value) (g : Nat) (h : Array Obj) : Array Obj := h.modify g fun
  | .cells _ t frozen => .cells cs t frozen
  | o => o
def laidWorld (W : World) : World :=
  { W with heap := layIn (Lib.firstTab.map (Value.int .u8)).toArray 1 (layIn ((List.range 16).flatMap fun i => [Value.int .u8 (Lib.accLo i : Int), Value.int .u8 (Lib.accHi i : Int)]).toArray 2 W.heap) }
end Go.Proofs.YtmdpakkldapciaaDoor
