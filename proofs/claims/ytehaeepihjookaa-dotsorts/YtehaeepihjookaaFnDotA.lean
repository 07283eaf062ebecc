/-
  Walks of newsreelref1.DotRight, newsreelref1.DotLess.
-/
import Derived.Test.YtehaeepihjookaaDotKit
namespace Go.Proofs.Ytehaeepihjookaa
open Go.RowKit NumMath
open DotMath (Dt)
set_option maxRecDepth 100000
set_option linter.unusedVariables false
set_option linter.unusedSimpArgs false

theorem dright_cases (r s : Int) :
    (r < 0 ∧ Hid (DotMath.right ⟨r, s⟩ = false)) ∨ ((0 ≤ r ∧ 64 ≤ r) ∧ Hid (DotMath.right ⟨r, s⟩ = false)) ∨ ((0 ≤ r ∧ r < 64 ∧ s < 1) ∧ Hid (DotMath.right ⟨r, s⟩ = false)) ∨
    ((0 ≤ r ∧ r < 64 ∧ 1 ≤ s ∧ 1099511627775 < s) ∧ Hid (DotMath.right ⟨r, s⟩ = false)) ∨ ((0 ≤ r ∧ r < 64 ∧ 1 ≤ s ∧ s ≤ 1099511627775) ∧ Hid (DotMath.right ⟨r, s⟩ = true)) := by
  unfold Hid DotMath.right
  simp only [decide_eq_false_iff_not, decide_eq_true_eq]
  omega
theorem refDotRight_any (d : Dt) (w : World) : Calls Try.prog 10 #[dtV d] w fun e w' => e = .returned (.bool (DotMath.right d)) ∧ Below w.heap.size w w' := by
  obtain ⟨r, s⟩ := d
  unfold dtV
  dsimp only
  rcases dright_cases r s with ⟨h0, H⟩ | ⟨⟨h0, h1⟩, H⟩ | ⟨⟨h0, h1, h2⟩, H⟩ | ⟨⟨h0, h1, h2, h3⟩, H⟩ | ⟨⟨h0, h1, h2, h3⟩, H⟩
  all_goals
    go_enter Try.func10, Try.ntmps10
    go_wp2
    go_ret
    rw [H.out]
    first
      | exact ⟨rfl, (Below.refl _ _).alloc (Nat.le_refl _) _⟩
      | exact ⟨congrArg (fun b => Ending.returned (.bool b)) (decide_eq_false (by omega : ¬ s ≤ 1099511627775)), (Below.refl _ _).alloc (Nat.le_refl _) _⟩

theorem dless_cases (a b : Dt) :
    (a.r < b.r ∧ Hid (DotMath.less a b = true)) ∨ ((b.r ≤ a.r ∧ (a.r == b.r) = true) ∧ Hid (DotMath.less a b = decide (a.s < b.s))) ∨ ((b.r ≤ a.r ∧ (a.r == b.r) = false) ∧ Hid (DotMath.less a b = false)) := by
  unfold Hid DotMath.less
  simp only [beq_eq_false_iff_ne, beq_iff_eq, ne_eq, decide_eq_decide, decide_eq_false_iff_not, decide_eq_true_eq]
  omega
theorem refDotLess_any (a b : Dt) (w : World) : Calls Try.prog 12 #[dtV a, dtV b] w fun e w' => e = .returned (.bool (DotMath.less a b)) ∧ Below w.heap.size w w' := by
  unfold dtV
  rcases dless_cases a b with ⟨h1, H⟩ | ⟨⟨h1, h2⟩, H⟩ | ⟨⟨h1, h2⟩, H⟩
  all_goals
    go_enter Try.func12, Try.ntmps12
    go_wp2
    go_ret
    rw [H.out]
    first
      | exact ⟨rfl, ((Below.refl _ _).alloc (Nat.le_refl _) _).alloc (by simp) _⟩
      | exact ⟨congrArg (fun b => Ending.returned (.bool b)) (decide_eq_true h1), ((Below.refl _ _).alloc (Nat.le_refl _) _).alloc (by simp) _⟩
      | exact ⟨congrArg (fun b => Ending.returned (.bool b)) (by simp only [show decide (a.r < b.r) = false from decide_eq_false (by omega), Bool.false_or]), ((Below.refl _ _).alloc (Nat.le_refl _) _).alloc (by simp) _⟩
end Go.Proofs.Ytehaeepihjookaa
