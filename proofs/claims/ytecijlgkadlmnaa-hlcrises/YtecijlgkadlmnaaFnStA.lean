/-
  Walks of stamp.Right, newsreelref1.StampRight, newsreelref1.StampLess, cmp.isNaN, cmp.Compare, cmp.Or.
-/
import Derived.Test.YtecijlgkadlmnaaStKit
namespace Go.Proofs.Ytecijlgkadlmnaa
open Go.RowKit NumMath
open StMath (St cmpI or3)
set_option maxRecDepth 100000
set_option linter.unusedVariables false
set_option linter.unusedSimpArgs false

theorem right_cases (p l r : Int) :
    (p < 0 ∧ Hid (StMath.right ⟨p, l, r⟩ = false)) ∨ ((0 ≤ p ∧ 281474976710655 < p) ∧ Hid (StMath.right ⟨p, l, r⟩ = false)) ∨ ((0 ≤ p ∧ p ≤ 281474976710655 ∧ l < 0) ∧ Hid (StMath.right ⟨p, l, r⟩ = false)) ∨
    ((0 ≤ p ∧ p ≤ 281474976710655 ∧ 0 ≤ l ∧ 65535 < l) ∧ Hid (StMath.right ⟨p, l, r⟩ = false)) ∨ ((0 ≤ p ∧ p ≤ 281474976710655 ∧ 0 ≤ l ∧ l ≤ 65535 ∧ r < 0) ∧ Hid (StMath.right ⟨p, l, r⟩ = false)) ∨
    ((0 ≤ p ∧ p ≤ 281474976710655 ∧ 0 ≤ l ∧ l ≤ 65535 ∧ 0 ≤ r ∧ 64 ≤ r) ∧ Hid (StMath.right ⟨p, l, r⟩ = false)) ∨ ((0 ≤ p ∧ p ≤ 281474976710655 ∧ 0 ≤ l ∧ l ≤ 65535 ∧ 0 ≤ r ∧ r < 64) ∧ Hid (StMath.right ⟨p, l, r⟩ = true)) := by
  unfold Hid StMath.right
  simp only [decide_eq_false_iff_not, decide_eq_true_eq]
  omega

theorem stRight_any (s : St) (w : World) : Calls Try.prog 29 #[stV s] w fun e w' => e = .returned (.bool (StMath.right s)) ∧ Below w.heap.size w w' := by
  obtain ⟨p, l, r⟩ := s
  unfold stV
  dsimp only
  rcases right_cases p l r with ⟨h0, H⟩ | ⟨⟨h0, h1⟩, H⟩ | ⟨⟨h0, h1, h2⟩, H⟩ | ⟨⟨h0, h1, h2, h3⟩, H⟩ | ⟨⟨h0, h1, h2, h3, h4⟩, H⟩ | ⟨⟨h0, h1, h2, h3, h4, h5⟩, H⟩ | ⟨⟨h0, h1, h2, h3, h4, h5⟩, H⟩
  all_goals
    go_enter Try.func29, Try.ntmps29
    go_wp2
    go_ret
    rw [H.out]
    first
      | exact ⟨rfl, (Below.refl _ _).alloc (Nat.le_refl _) _⟩
      | exact ⟨congrArg (fun b => Ending.returned (.bool b)) (decide_eq_false (by omega : ¬ r < 64)), (Below.refl _ _).alloc (Nat.le_refl _) _⟩
theorem refRight_any (s : St) (w : World) : Calls Try.prog 32 #[stV s] w fun e w' => e = .returned (.bool (StMath.right s)) ∧ Below w.heap.size w w' := by
  obtain ⟨p, l, r⟩ := s
  unfold stV
  dsimp only
  rcases right_cases p l r with ⟨h0, H⟩ | ⟨⟨h0, h1⟩, H⟩ | ⟨⟨h0, h1, h2⟩, H⟩ | ⟨⟨h0, h1, h2, h3⟩, H⟩ | ⟨⟨h0, h1, h2, h3, h4⟩, H⟩ | ⟨⟨h0, h1, h2, h3, h4, h5⟩, H⟩ | ⟨⟨h0, h1, h2, h3, h4, h5⟩, H⟩
  all_goals
    go_enter Try.func32, Try.ntmps32
    go_wp2
    go_ret
    rw [H.out]
    first
      | exact ⟨rfl, (Below.refl _ _).alloc (Nat.le_refl _) _⟩
      | exact ⟨congrArg (fun b => Ending.returned (.bool b)) (decide_eq_false (by omega : ¬ r < 64)), (Below.refl _ _).alloc (Nat.le_refl _) _⟩

theorem less_cases (a b : St) :
    (((a.p == b.p) = false) ∧ Hid (StMath.less a b = decide (a.p < b.p))) ∨ ((a.p == b.p) = true ∧ (a.l == b.l) = false ∧ Hid (StMath.less a b = decide (a.l < b.l))) ∨
    ((a.p == b.p) = true ∧ (a.l == b.l) = true ∧ Hid (StMath.less a b = decide (a.r < b.r))) := by
  unfold Hid StMath.less
  simp only [beq_eq_false_iff_ne, beq_iff_eq, ne_eq, decide_eq_decide]
  omega
theorem refLess_any (a b : St) (w : World) : Calls Try.prog 17 #[stV a, stV b] w fun e w' => e = .returned (.bool (StMath.less a b)) ∧ Below w.heap.size w w' := by
  unfold stV
  rcases less_cases a b with ⟨h1, H⟩ | ⟨h1, h2, H⟩ | ⟨h1, h2, H⟩
  all_goals
    go_enter Try.func17, Try.ntmps17
    go_wp2
    go_ret
    rw [H.out]
    exact ⟨rfl, ((Below.refl _ _).alloc (Nat.le_refl _) _).alloc (by simp) _⟩

theorem nan64_any (x : Int) (w : World) : Calls Try.prog 40 #[.int .i64 x] w fun e w' => e = .returned (.bool false) ∧ w' = w := by
  go_enter Try.func40, Try.ntmps40
  go_wp2
  go_ret
  exact ⟨rfl, rfl⟩
theorem nan_any (x : Int) (w : World) : Calls Try.prog 41 #[.int .i64 x] w fun e w' => e = .returned (.bool false) ∧ w' = w := by
  go_enter Try.func41, Try.ntmps41
  go_wp2
  go_ret
  exact ⟨rfl, rfl⟩
theorem cmp_cases (x y : Int) : (x < y ∧ Hid (cmpI x y = -1)) ∨ ((y < x ∧ ¬ x < y) ∧ Hid (cmpI x y = 1)) ∨ ((¬ x < y ∧ ¬ y < x) ∧ Hid (cmpI x y = 0)) := by
  unfold Hid cmpI
  by_cases h1 : x < y
  · simp [h1]
  · by_cases h2 : y < x
    · simp [h1, h2]
    · simp [h1, h2]
theorem cmp64_any (x y : Int) (w : World) : Calls Try.prog 38 #[.int .i64 x, .int .i64 y] w fun e w' => e = .returned (.int .i64 (cmpI x y)) ∧ w' = w := by
  have HX : Hid _ := nan64_any x w
  have HY : Hid _ := nan64_any y w
  rcases cmp_cases x y with ⟨h1, H⟩ | ⟨⟨h1, h2⟩, H⟩ | ⟨⟨h1, h2⟩, H⟩
  all_goals
    go_enter Try.func38, Try.ntmps38
    go_wp2_with fail
    refine Calls.mono HX.out ?_
    rintro e w1 ⟨rfl, rfl⟩
    go_wp2_with fail
    refine Calls.mono HY.out ?_
    rintro e w1 ⟨rfl, rfl⟩
    go_wp2
    go_ret
    rw [H.out]
    exact ⟨rfl, rfl⟩
theorem cmp_any (x y : Int) (w : World) : Calls Try.prog 39 #[.int .i64 x, .int .i64 y] w fun e w' => e = .returned (.int .i64 (cmpI x y)) ∧ w' = w := by
  have HX : Hid _ := nan_any x w
  have HY : Hid _ := nan_any y w
  rcases cmp_cases x y with ⟨h1, H⟩ | ⟨⟨h1, h2⟩, H⟩ | ⟨⟨h1, h2⟩, H⟩
  all_goals
    go_enter Try.func39, Try.ntmps39
    go_wp2_with fail
    refine Calls.mono HX.out ?_
    rintro e w1 ⟨rfl, rfl⟩
    go_wp2_with fail
    refine Calls.mono HY.out ?_
    rintro e w1 ⟨rfl, rfl⟩
    go_wp2
    go_ret
    rw [H.out]
    exact ⟨rfl, rfl⟩
theorem or3_cases (x y z : Int) : ((x == 0) = false ∧ Hid (or3 x y z = x)) ∨ ((x == 0) = true ∧ (y == 0) = false ∧ Hid (or3 x y z = y)) ∨ ((x == 0) = true ∧ (y == 0) = true ∧ (z == 0) = false ∧ Hid (or3 x y z = z)) ∨
    ((x == 0) = true ∧ (y == 0) = true ∧ (z == 0) = true ∧ Hid (or3 x y z = 0)) := by
  unfold Hid or3
  simp only [beq_eq_false_iff_ne, beq_iff_eq, ne_eq]
  by_cases h1 : x = 0
  · by_cases h2 : y = 0
    · by_cases h3 : z = 0 <;> simp [h1, h2, h3]
    · simp [h1, h2]
  · simp [h1]
theorem orInt_any (x y z : Int) (g : Nat) (w : World) (h0 : w.cell? ⟨g, 0, none⟩ = some (.int .i64 x)) (h1 : w.cell? ⟨g, 1, none⟩ = some (.int .i64 y)) (h2 : w.cell? ⟨g, 2, none⟩ = some (.int .i64 z)) :
    Calls Try.prog 37 #[.slice (some ⟨g, 0, none⟩) 3 3] w fun e w' => e = .returned (.int .i64 (or3 x y z)) ∧ w' = w := by
  rcases or3_cases x y z with ⟨e0, H⟩ | ⟨e0, e1, H⟩ | ⟨e0, e1, e2, H⟩ | ⟨e0, e1, e2, H⟩
  all_goals
    go_enter Try.func37, Try.ntmps37
    go_wp2
    refine wp_loop_rounds 4 ?_
    rw [rounds_succ]
    go_wp2
    try (rw [rounds_succ]; go_wp2)
    try (rw [rounds_succ]; go_wp2)
    try (rw [rounds_succ]; go_wp2)
    go_ret
    rw [H.out]
    exact ⟨rfl, rfl⟩
end Go.Proofs.Ytecijlgkadlmnaa
