/-
  Walk of newsreelref4.Less.
-/
import Derived.Test.YtpffjeoiacaihaaDoorFnRefFold
import Derived.Test.YtpffjeoiacaihaaDoorTxtLess
import Derived.Test.YtpffjeoiacaihaaDoorFnTexts
namespace Go.Proofs.YtpffjeoiacaihaaDoor
open Go.RowKit NumMath
set_option maxRecDepth 100000
set_option linter.unusedVariables false
set_option linter.unusedSimpArgs false

theorem less_str {a b : List Nat} (ha : ∀ c ∈ a, c < 256) (hb : ∀ c ∈ b, c < 256) : Op.bytesLess (strN a).toList (strN b).toList = TxtMath.lexLt a b := by
  rw [strN_toList, strN_toList]; exact lex_less a b ha hb

end Go.Proofs.YtpffjeoiacaihaaDoor
