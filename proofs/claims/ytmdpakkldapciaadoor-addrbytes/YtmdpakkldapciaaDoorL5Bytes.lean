/-
  Walk of newsreellaw5.AddrBytes.
-/
import Derived.Test.YtmdpakkldapciaaDoorL5BytesFF
import Derived.Test.YtmdpakkldapciaaDoorL5BytesFT
import Derived.Test.YtmdpakkldapciaaDoorL5BytesTF
import Derived.Test.YtmdpakkldapciaaDoorL5BytesTT
namespace Go.Proofs.YtmdpakkldapciaaDoor
open Go.RowKit NumMath
set_option maxRecDepth 100000
set_option linter.unusedVariables false
theorem addrBytes_walk (n0 : Int) (qy sm : Bool) (W : World) (ht : MaxLen W) (w0 : (Lit.int .u8 n0).wf = true) :
    Calls Tryd.prog 8 #[.int .u8 n0, .bool qy, .bool sm] W fun e W' => e = .returned (.bool true) ∧ Below W.heap.size W W' := by
  cases qy with
  | false => cases sm with
    | false => exact addrBytes_FF n0 W ht w0
    | true => exact addrBytes_FT n0 W ht w0
  | true => cases sm with
    | false => exact addrBytes_TF n0 W ht w0
    | true => exact addrBytes_TT n0 W ht w0
end Go.Proofs.YtmdpakkldapciaaDoor
