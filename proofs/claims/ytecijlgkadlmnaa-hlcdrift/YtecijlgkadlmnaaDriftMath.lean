/-
  What HlcDrift asks, as plain mathematics.
-/
import Derived.Test.YtecijlgkadlmnaaHlcMath
namespace HlcMath
open StMath (St)
set_option linter.unusedVariables false
set_option linter.unusedSimpArgs false

theorem dr_far {r d n sr : Int} (d0 : 0 ≤ d) (d1 : d ≤ 65535) (n0 : 0 ≤ n) (n1 : n ≤ 16777215) (s0 : 0 ≤ sr) (s1 : sr < 64) :
    check ⟨⟨0, 0, r⟩, 0, d⟩ n ⟨n + d + 1, 0, sr⟩ = 28 ∧ witness ⟨⟨0, 0, r⟩, 0, d⟩ n ⟨n + d + 1, 0, sr⟩ = ⟨⟨0, 0, r⟩, 0, d⟩ := by
  have h : check ⟨⟨0, 0, r⟩, 0, d⟩ n ⟨n + d + 1, 0, sr⟩ = 28 := by
    unfold check
    rw [if_pos (by rw [isPhys_iff]; omega), if_pos (by rw [StMath.right_iff]; dsimp only; omega), if_pos (by dsimp only; omega)]
  exact ⟨h, by unfold witness; rw [h, if_neg (by decide)]⟩
theorem dr_edge {r d n l sr : Int} (d0 : 0 ≤ d) (d1 : d ≤ 65535) (n0 : 0 ≤ n) (n1 : n ≤ 16777215) (l0 : 0 ≤ l) (l1 : l ≤ 65535) (s0 : 0 ≤ sr) (s1 : sr < 64) :
    check ⟨⟨0, 0, r⟩, 0, d⟩ n ⟨n + d, l, sr⟩ = 0 := by
  unfold check
  rw [if_pos (by rw [isPhys_iff]; omega), if_pos (by rw [StMath.right_iff]; dsimp only; omega), if_neg (by dsimp only; omega)]
theorem dr_wit {r d n l sr : Int} (d0 : 0 ≤ d) (d1 : d ≤ 65535) (n0 : 0 ≤ n) (n1 : n ≤ 16777215) (l0 : 0 ≤ l) (l1 : l ≤ 65535) (s0 : 0 ≤ sr) (s1 : sr < 64) (h : n + d ≠ 0) :
    witness ⟨⟨0, 0, r⟩, 0, d⟩ n ⟨n + d, l, sr⟩ = ⟨⟨n + d, l, r⟩, 0, d⟩ := by
  unfold witness
  rw [if_pos (dr_edge d0 d1 n0 n1 l0 l1 s0 s1)]
  unfold raise
  rw [if_pos (by left; dsimp only; omega)]
theorem dr_next {r d n l : Int} (d0 : 0 ≤ d) (d1 : d ≤ 65535) (n0 : 0 ≤ n) (n1 : n ≤ 16777215) (l0 : 0 ≤ l) :
    peek ⟨⟨n + d, l, r⟩, 0, d⟩ n = (StMath.zero, 28) ∧ next ⟨⟨n + d, l, r⟩, 0, d⟩ n = ⟨⟨n + d, l, r⟩, 0, d⟩ := by
  have h : peek ⟨⟨n + d, l, r⟩, 0, d⟩ n = (StMath.zero, 28) := by
    unfold peek foll
    rw [if_pos (by rw [isPhys_iff]; omega), if_neg (by dsimp only; omega), if_neg (by dsimp only; omega), if_pos (by dsimp only; omega)]
    dsimp only
    unfold lim
    rw [if_pos (by dsimp only; omega)]
  exact ⟨h, by unfold next; rw [h, if_neg (by decide)]⟩
theorem dr_next2 {r d n l : Int} (d0 : 0 ≤ d) (d1 : d ≤ 65535) (n0 : 0 ≤ n) (n1 : n ≤ 16777215) (l0 : 0 ≤ l) :
    peek ⟨⟨n + d, l, r⟩, 0, d⟩ (n + 1) = (⟨n + d + 1, 0, r⟩, 0) ∧ next ⟨⟨n + d, l, r⟩, 0, d⟩ (n + 1) = ⟨⟨n + d + 1, 0, r⟩, 0, d⟩ := by
  have h : peek ⟨⟨n + d, l, r⟩, 0, d⟩ (n + 1) = (⟨n + d + 1, 0, r⟩, 0) := by
    unfold peek foll
    rw [if_pos (by rw [isPhys_iff]; omega)]
    by_cases hd : d = 0
    · subst hd
      rw [if_pos (by dsimp only; omega)]
      dsimp only
      unfold lim
      rw [if_neg (by dsimp only; omega)]
      simp
    · rw [if_neg (by dsimp only; omega), if_neg (by dsimp only; omega), if_pos (by dsimp only; omega)]
      dsimp only
      unfold lim
      rw [if_neg (by dsimp only; omega)]
  exact ⟨h, by unfold next; rw [h, if_pos rfl]⟩
theorem dr_max {r d n l : Int} : StMath.maxS [⟨n + d + 1, 0, r⟩, ⟨n + d, l, r⟩] = ⟨n + d + 1, 0, r⟩ := by
  show StMath.up _ _ = _
  unfold StMath.up
  rw [if_neg]
  rw [StMath.less_iff]
  dsimp only
  omega
end HlcMath
