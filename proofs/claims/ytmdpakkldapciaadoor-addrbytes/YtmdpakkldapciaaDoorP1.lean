/-
  L5Bytes, L5Tab.
-/
import Derived.Test.YtmdpakkldapciaaDoorL5BytesFF
import Derived.Test.YtmdpakkldapciaaDoorL5BytesFT
import Derived.Test.YtmdpakkldapciaaDoorL5BytesTF
import Derived.Test.YtmdpakkldapciaaDoorL5BytesTT
import Derived.Test.YtmdpakkldapciaaDoorCutKit
import Derived.Test.YtmdpakkldapciaaDoorCards
import Derived.Test.YtmdpakkldapciaaDoorTie
import Derived.Shelf.Vars
import Derived.Lib.LaidU8
import Derived.LaidSub
import Derived.MakeChecks
namespace Go.Proofs.YtmdpakkldapciaaDoor
open Go.RowKit NumMath
set_option maxRecDepth 100000
set_option linter.unusedVariables false
theorem addrBytes_walk (n0 : Int) (qy sm : Bool) (W : World) (ht : MaxLen W) (w0 : (Lit.int .u8 n0).wf = true) :
    Calls Tryd.prog 8 #[.int .u8 n0, .bool qy, .bool sm] W fun e W' => e = .returned (.bool true) ∧ Below W.heap.size W W' := by
  cases qy with
  | false => cases sm with
    | false => exact addrBytes_FF n0 W ht w0
    | true => exact addrBytes_FT n0 W ht w0
  | true => cases sm with
    | false => exact addrBytes_TF n0 W ht w0
    | true => exact addrBytes_TT n0 W ht w0
end Go.Proofs.YtmdpakkldapciaaDoor
namespace Go.Proofs.YtmdpakkldapciaaDoor
open Go.RowKit NumMath
set_option maxRecDepth 100000
set_option linter.unusedVariables false
set_option linter.unusedSimpArgs false

theorem maxLen_of_shape {W : World} (h : W.ShapedOpen Tryd.prog) : MaxLen W :=
  cell_of_shapedOpen_int (g := 0) (t := 3) (zero := #[.int .i64 0]) h (of_decide_eq_true (by kernel_rfl)) (by kernel_rfl) rfl (by kernel_rfl) (by kernel_rfl) Tryd.underlying3
/-- A world in which the tables lie as their initialisers lay them. -/
def layIn (cs : Array Value) (g : Nat) (h : Array Obj) : Array Obj := h.modify g fun
  | .cells _ t frozen => .cells cs t frozen
  | o => o
def laidWorld (W : World) : World :=
  { W with heap := layIn (Lib.firstTab.map (Value.int .u8)).toArray 1 (layIn ((List.range 16).flatMap fun i => [Value.int .u8 (Lib.accLo i : Int), Value.int .u8 (Lib.accHi i : Int)]).toArray 2 W.heap) }
end Go.Proofs.YtmdpakkldapciaaDoor
