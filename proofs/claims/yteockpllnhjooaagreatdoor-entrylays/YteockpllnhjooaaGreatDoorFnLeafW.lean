/-
  Walks of newsreelref4.white, bare.
-/
import Derived.Test.YteockpllnhjooaaGreatDoorFnLeaf
namespace Go.Proofs.YteockpllnhjooaaGreatDoor
open Go.RowKit NumMath
set_option maxRecDepth 100000
set_option linter.unusedVariables false
set_option linter.unusedSimpArgs false

theorem white_any (r : Nat) (w : World) (h : r ≤ 1114111) :
    Calls Tryz.prog 63 #[.int .i64 (r : Int)] w fun e w' => e = .returned (.bool (TxtMath.white r)) ∧ w' = w := by
  go_enter Tryz.func63, Tryz.ntmps63
  go_wp2
  all_goals
    go_ret
    refine ⟨ret_bool ?_, rfl⟩
    rw [Bool.eq_iff_iff]
    simp [TxtMath.white] at *
    try omega

theorem bare_any (r : Nat) (w : World) (h : r ≤ 1114111) :
    Calls Tryz.prog 64 #[.int .i64 (r : Int)] w fun e w' => e = .returned (.bool (TxtMath.bare r)) ∧ w' = w := by
  have HW : Hid _ := white_any r w h
  go_enter Tryz.func64, Tryz.ntmps64
  go_wp2_with (go_at_call 63; refine Calls.mono HW.out ?_; rintro e w1 ⟨rfl, rfl⟩)
  all_goals go_ret
  all_goals
    refine ⟨ret_bool ?_, rfl⟩
    rw [Bool.eq_iff_iff]
    simp [TxtMath.bare] at *
    try omega
end Go.Proofs.YteockpllnhjooaaGreatDoor
