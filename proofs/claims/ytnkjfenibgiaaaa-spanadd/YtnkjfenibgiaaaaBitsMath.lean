/-
  The numbers of a number's bits.
-/
import Derived.Test.YtnkjfenibgiaaaaSpanMath
namespace SpanMath
set_option linter.unusedVariables false
def bit (x : Int) (i : Nat) : Bool := decide (x / 2 ^ i % 2 = 1)
def bitsTo (x base : Int) (n : Nat) : List Int := ((List.range n).filter (bit x)).map (fun i : Nat => base + 1 + (i : Int))
theorem bitsTo_succ (x base : Int) (k : Nat) : bitsTo x base (k + 1) = if bit x k = true then bitsTo x base k ++ [base + 1 + (k : Int)] else bitsTo x base k := by
  unfold bitsTo
  rw [List.range_succ, List.filter_append, List.map_append]
  by_cases h : bit x k = true
  · rw [if_pos h]; simp [h]
  · rw [if_neg h]; simp [h]
theorem bitsTo_len (x base : Int) (k : Nat) : (bitsTo x base k).length ≤ k := by
  unfold bitsTo
  rw [List.length_map]
  exact Nat.le_trans (List.length_filter_le _ _) (by simp)
end SpanMath
