/-
  Walks of text.isWhite, isBare, folded, isLetter.
-/
import Derived.Test.YteockpllnhjooaaGreatDoorStrKit
import Derived.Test.YteockpllnhjooaaGreatDoorTxtLaws
namespace Go.Proofs.YteockpllnhjooaaGreatDoor
open Go.RowKit NumMath
set_option maxRecDepth 100000
set_option linter.unusedVariables false
set_option linter.unusedSimpArgs false
/-- What text.isBare asks. -/
def bareP (r : Nat) : Bool := decide (r < 32) || (decide (127 ≤ r) && decide (r ≤ 159))
theorem bare_is (r : Nat) (h : TxtMath.white r = false) : TxtMath.bare r = bareP r := by unfold TxtMath.bare bareP; rw [h]; simp
theorem low_spec (r : Nat) : let c := (65 ≤ r ∧ r ≤ 90) ∨ (192 ≤ r ∧ r ≤ 222 ∧ r ≠ 215) ∨ (913 ≤ r ∧ r ≤ 939 ∧ r ≠ 930) ∨ (1040 ≤ r ∧ r ≤ 1071)
    (c ∧ TxtMath.low r = r + 32) ∨ (¬ c ∧ (1024 ≤ r ∧ r ≤ 1039) ∧ TxtMath.low r = r + 80) ∨ (¬ c ∧ ¬ (1024 ≤ r ∧ r ≤ 1039) ∧ TxtMath.low r = r) := by
  intro c
  show (_ ∧ _) ∨ (_ ∧ _ ∧ _) ∨ (_ ∧ _ ∧ _)
  unfold TxtMath.low
  split
  · rename_i h; simp at h; left; refine ⟨?_, rfl⟩; show _ ∨ _; omega
  · rename_i h
    have hc : ¬ c := by intro hc; apply h; simp; rcases hc with hc | hc | hc | hc <;> omega
    split
    · rename_i h2; simp at h2; right; left; exact ⟨hc, h2, rfl⟩
    · rename_i h2; simp at h2; right; right; exact ⟨hc, by omega, rfl⟩

theorem letter_iff (r : Nat) : TxtMath.letter r = true ↔ (r < 128 ∧ ((97 ≤ r ∧ r ≤ 122) ∨ (65 ≤ r ∧ r ≤ 90) ∨ (48 ≤ r ∧ r ≤ 57))) ∨ (192 ≤ r ∧ r ≠ 215 ∧ r ≠ 247 ∧ r ≠ 65533 ∧ (r < 8192 ∨ 8303 < r) ∧ TxtMath.white r = false) := by
  unfold TxtMath.letter
  split
  · simp; omega
  · generalize TxtMath.white r = b
    cases b <;> simp <;> omega
theorem isWhite_any (r : Nat) (w : World) (h : r ≤ 1114111) :
    Calls Tryz.prog 51 #[.int .i32 (r : Int)] w fun e w' => e = .returned (.bool (TxtMath.white r)) ∧ w' = w := by
  go_enter Tryz.func51, Tryz.ntmps51
  go_wp2
  all_goals
    go_ret
    refine ⟨ret_bool ?_, rfl⟩
    rw [Bool.eq_iff_iff]
    simp [TxtMath.white] at *
    try omega

theorem isBare_any (r : Nat) (w : World) (h : r ≤ 1114111) :
    Calls Tryz.prog 52 #[.int .i32 (r : Int)] w fun e w' => e = .returned (.bool (bareP r)) ∧ w' = w := by
  go_enter Tryz.func52, Tryz.ntmps52
  go_wp2
  all_goals
    go_ret
    refine ⟨ret_bool ?_, rfl⟩
    rw [Bool.eq_iff_iff]
    simp [bareP] at *
    try omega

end Go.Proofs.YteockpllnhjooaaGreatDoor
