/-
  Walk of newsreelref4.Words.
-/
import Derived.Test.YtpffjeoiacaihabDoorFnWords
import Derived.Test.YtpffjeoiacaihabDoorOwnLater
import Derived.Test.YtpffjeoiacaihabDoorFnRefFold
import Derived.Test.YtpffjeoiacaihabDoorFnLeafT
namespace Go.Proofs.YtpffjeoiacaihabDoor
open Go.RowKit NumMath
set_option maxRecDepth 100000
set_option linter.unusedVariables false
set_option linter.unusedSimpArgs false

theorem iv_drop (a : List Nat) (j : Nat) : iv (a.drop j) = (iv a).drop j := by simp [iv]
theorem VRow.drop {w : World} {b off : Nat} {vs : List Value} (h : ∀ i v, vs[i]? = some v → w.cell? ⟨b, off + i, none⟩ = some v) (j : Nat) : VRow w (some ⟨b, off + j, none⟩) (vs.drop j) := by
  refine .inr ⟨b, off + j, rfl, fun i v hi => ?_⟩
  rw [List.getElem?_drop] at hi
  have := h (j + i) v hi
  rw [show off + j + i = off + (j + i) by omega]
  exact this

end Go.Proofs.YtpffjeoiacaihabDoor
