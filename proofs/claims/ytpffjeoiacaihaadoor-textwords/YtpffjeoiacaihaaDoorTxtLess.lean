/-
  Which text comes ahead: what both walks need. Plain mathematics.
-/
import Derived.Test.YtpffjeoiacaihaaDoorTxtLaws
namespace TxtMath
set_option linter.unusedVariables false
set_option linter.unusedSimpArgs false
theorem lex_pre : ∀ P X Y : List Nat, lexLt (P ++ X) (P ++ Y) = lexLt X Y
  | [], _, _ => rfl
  | p :: P, X, Y => by simp [lexLt, lex_pre P X Y]
theorem less_diff (a b P X Y : List Nat) (x y : Nat) (hA : foldR a = P ++ x :: X) (hB : foldR b = P ++ y :: Y) (h : x ≠ y) : lessB a b = decide (x < y) := by
  unfold lessB
  rw [hA, hB, lex_pre]
  have hne : ¬ (P ++ x :: X = P ++ y :: Y) := by simp [h]
  rw [decide_eq_false hne]
  simp [lexLt, h]
theorem less_short (a b P Y : List Nat) (y : Nat) (hA : foldR a = P) (hB : foldR b = P ++ y :: Y) : lessB a b = true := by
  unfold lessB
  have := lex_pre P [] (y :: Y)
  rw [List.append_nil] at this
  rw [hA, hB, this]
  simp [lexLt]
theorem less_long (a b P X : List Nat) (x : Nat) (hA : foldR a = P ++ x :: X) (hB : foldR b = P) : lessB a b = false := by
  unfold lessB
  have := lex_pre P (x :: X) []
  rw [List.append_nil] at this
  rw [hA, hB, this]
  have hne : ¬ (P ++ x :: X = P) := by simp
  rw [decide_eq_false hne]
  simp [lexLt]
theorem less_same (a b : List Nat) (h : foldR a = foldR b) : lessB a b = lexLt a b := by
  unfold lessB
  rw [h, lex_irrefl]
  simp
end TxtMath
