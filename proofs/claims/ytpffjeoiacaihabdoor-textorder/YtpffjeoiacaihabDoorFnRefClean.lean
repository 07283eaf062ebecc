/-
  Walk of newsreelref4.clean.
-/
import Derived.Test.YtpffjeoiacaihabDoorValKit
import Derived.Test.YtpffjeoiacaihabDoorFnLeafW
namespace Go.Proofs.YtpffjeoiacaihabDoor
open Go.RowKit NumMath
set_option maxRecDepth 100000
set_option linter.unusedVariables false
set_option linter.unusedSimpArgs false


end Go.Proofs.YtpffjeoiacaihabDoor
