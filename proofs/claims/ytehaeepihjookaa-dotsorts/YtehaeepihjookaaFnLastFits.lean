/-
  Walk of num.lastFits.
-/
import Derived.Test.YtehaeepihjookaaKit
namespace Go.Proofs.Ytehaeepihjookaa
open Go.RowKit NumMath
set_option maxRecDepth 100000
set_option linter.unusedVariables false
set_option linter.unusedSimpArgs false

theorem lastFits_any (c : Int) (i : Nat) (w : World) (h0 : 0 ≤ c) (h1 : c ≤ 255) (hi : i ≤ 10) :
    Calls Try.prog 41 #[.int .u8 c, .int .i64 (i : Int)] w fun e w' => e = .returned (.bool (fits c i)) ∧ w' = w := by
  by_cases hc : c = 0
  · subst hc
    by_cases hi0 : i = 0
    · subst hi0
      go_enter Try.func41, Try.ntmps41
      go_wp2
      go_ret
      exact ⟨rfl, rfl⟩
    · have hb : ((i : Int) == 0) = false := by simp; omega
      go_enter Try.func41, Try.ntmps41
      go_wp2
      go_ret
      exact ⟨by simp [fits, hi0], rfl⟩
  · have hb : (c == 0) = false := by simp [hc]
    by_cases hi9 : i < 9
    · have hd : decide ((i : Int) < 9) = true := by simp; omega
      go_enter Try.func41, Try.ntmps41
      go_wp2
      go_ret
      exact ⟨by simp [fits, hc, hi9], rfl⟩
    · have hd : decide ((i : Int) < 9) = false := by simp; omega
      go_enter Try.func41, Try.ntmps41
      go_wp2
      go_ret
      exact ⟨by simp [fits, hc, hi9], rfl⟩

end Go.Proofs.Ytehaeepihjookaa
