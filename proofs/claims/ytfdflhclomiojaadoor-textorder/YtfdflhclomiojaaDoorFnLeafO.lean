/-
  Walks of newsreelref4.low.
-/
import Derived.Test.YtfdflhclomiojaaDoorFnLeaf
namespace Go.Proofs.YtfdflhclomiojaaDoor
open Go.RowKit NumMath
set_option linter.unusedVariables false
set_option linter.unusedSimpArgs false

theorem low_any (r : Nat) (w : World) (h : r ≤ 1114111) :
    Calls Tryd.prog 49 #[.int .i64 (r : Int)] w fun e w' => e = .returned (.int .i64 ((TxtMath.low r : Nat) : Int)) ∧ w' = w := by
  go_enter Tryd.func49, Tryd.ntmps49
  go_wp2
  all_goals
    go_ret
    refine ⟨ret_int ?_, rfl⟩
    have hc := low_spec r
    simp at *
    try omega
end Go.Proofs.YtfdflhclomiojaaDoor
