/-
  Walks of newsreelref4.low.
-/
import Derived.Test.YtpffjeoiacaihaaDoorFnLeaf
namespace Go.Proofs.YtpffjeoiacaihaaDoor
open Go.RowKit NumMath
set_option maxRecDepth 100000
set_option linter.unusedVariables false
set_option linter.unusedSimpArgs false

theorem low_any (r : Nat) (w : World) (h : r ≤ 1114111) :
    Calls Tryd.prog 71 #[.int .i64 (r : Int)] w fun e w' => e = .returned (.int .i64 ((TxtMath.low r : Nat) : Int)) ∧ w' = w := by
  go_enter Tryd.func71, Tryd.ntmps71
  go_wp2
  all_goals
    go_ret
    refine ⟨ret_int ?_, rfl⟩
    have hc := low_spec r
    simp at *
    try omega
end Go.Proofs.YtpffjeoiacaihaaDoor
