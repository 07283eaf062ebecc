/-
  Walk of newsreelhelp.Texts.
-/
import Derived.Test.YtpffjeoiacaihabDoorDrewN
import Derived.Test.YtpffjeoiacaihabDoorValKit
import Derived.Deep.QuietTactic
namespace Go.Proofs.YtpffjeoiacaihabDoor
open Go.RowKit NumMath
set_option maxRecDepth 100000
set_option linter.unusedVariables false
set_option linter.unusedSimpArgs false

theorem take_next {α : Type} {a b : List α} {k : Nat} {x : α} (h : a.take k = b.take k) (ha : a[k]? = some x) (hb : b[k]? = some x) : a.take (k + 1) = b.take (k + 1) := by
  obtain ⟨h1, h2⟩ := List.getElem?_eq_some_iff.1 ha
  obtain ⟨h3, h4⟩ := List.getElem?_eq_some_iff.1 hb
  rw [List.take_succ_eq_append_getElem h1, List.take_succ_eq_append_getElem h3, h2, h4, h]

end Go.Proofs.YtpffjeoiacaihabDoor
