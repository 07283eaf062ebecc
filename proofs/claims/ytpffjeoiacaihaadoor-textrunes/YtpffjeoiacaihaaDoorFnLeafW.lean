/-
  Walks of newsreelref4.white, bare.
-/
import Derived.Test.YtpffjeoiacaihaaDoorFnLeaf
namespace Go.Proofs.YtpffjeoiacaihaaDoor
open Go.RowKit NumMath
set_option maxRecDepth 100000
set_option linter.unusedVariables false
set_option linter.unusedSimpArgs false

theorem white_any (r : Nat) (w : World) (h : r ≤ 1114111) :
    Calls Tryd.prog 66 #[.int .i64 (r : Int)] w fun e w' => e = .returned (.bool (TxtMath.white r)) ∧ w' = w := by
  go_enter Tryd.func66, Tryd.ntmps66
  go_wp2
  all_goals
    go_ret
    refine ⟨ret_bool ?_, rfl⟩
    rw [Bool.eq_iff_iff]
    simp [TxtMath.white] at *
    try omega

theorem bare_any (r : Nat) (w : World) (h : r ≤ 1114111) :
    Calls Tryd.prog 67 #[.int .i64 (r : Int)] w fun e w' => e = .returned (.bool (TxtMath.bare r)) ∧ w' = w := by
  have HW : Hid _ := white_any r w h
  go_enter Tryd.func67, Tryd.ntmps67
  go_wp2_with (go_at_call 66; refine Calls.mono HW.out ?_; rintro e w1 ⟨rfl, rfl⟩)
  all_goals go_ret
  all_goals
    refine ⟨ret_bool ?_, rfl⟩
    rw [Bool.eq_iff_iff]
    simp [TxtMath.bare] at *
    try omega
end Go.Proofs.YtpffjeoiacaihaaDoor
