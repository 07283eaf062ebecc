/-
  Walks of newsreelref4.Clean and Right.
-/
import Derived.Test.YtpffjeoiacaihabDoorFnRefRunes
import Derived.Test.YtpffjeoiacaihabDoorFnRefClean
import Derived.Test.YtpffjeoiacaihabDoorFnUtf
import Derived.Test.YtpffjeoiacaihabDoorFnCut
namespace Go.Proofs.YtpffjeoiacaihabDoor
open Go.RowKit NumMath
set_option maxRecDepth 100000
set_option linter.unusedVariables false
set_option linter.unusedSimpArgs false

theorem runes_le (l : List Nat) : ∀ r ∈ TxtMath.runes l, r ≤ 1114111 := fun r h => TxtMath.valid_le (TxtMath.runes_ok l r h)
theorem clean_le (l : List Nat) : (TxtMath.clean (TxtMath.runes l)).length ≤ l.length := by
  have h2 := TxtMath.clean_len (TxtMath.runes l)
  have h3 := TxtMath.runes_len_le l
  omega

end Go.Proofs.YtpffjeoiacaihabDoor
