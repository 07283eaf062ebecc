/-
  Walks of text.isLetter.
-/
import Derived.Test.YtpffjeoiacaihaaDoorFnLeaf
namespace Go.Proofs.YtpffjeoiacaihaaDoor
open Go.RowKit NumMath
set_option maxRecDepth 100000
set_option linter.unusedVariables false
set_option linter.unusedSimpArgs false

set_option maxRecDepth 100000 in
theorem isLetter_any (r : Nat) (w : World) (h : r ≤ 1114111) :
    Calls Tryd.prog 60 #[.int .i32 (r : Int)] w fun e w' => e = .returned (.bool (TxtMath.letter r)) ∧ w' = w := by
  have HW : Hid _ := isWhite_any r w h
  go_enter Tryd.func60, Tryd.ntmps60
  go_wp2_with (go_at_call 50; refine Calls.mono HW.out ?_; rintro e w1 ⟨rfl, rfl⟩)
  all_goals go_ret
  all_goals
    refine ⟨ret_bool ?_, rfl⟩
    rw [Bool.eq_iff_iff, letter_iff]
    clear HW
    generalize TxtMath.white r = b
    cases b
    all_goals simp at *
    all_goals try omega
end Go.Proofs.YtpffjeoiacaihaaDoor
