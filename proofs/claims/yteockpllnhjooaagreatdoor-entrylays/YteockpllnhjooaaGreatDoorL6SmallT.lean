/-
  Texts that are read are no longer than what they are read of.
-/
import Derived.Test.YteockpllnhjooaaGreatDoorEntMath
namespace EntMath
theorem texts_err : ∀ (k : Nat) (zs : List Int), (texts k zs).2.2 ≠ 0 → (texts k zs).1 = []
  | 0, zs, h => rfl
  | k + 1, zs, h => by
    rw [texts] at h ⊢
    split
    · rfl
    · rename_i h1
      rw [if_neg h1] at h
      split
      · rfl
      · rename_i h2; rw [if_neg h2] at h; exact absurd rfl h
theorem texts_small (zs : List Int) (hb : ∀ c ∈ zs, 0 ≤ c ∧ c ≤ 255) (hl : zs.length ≤ 10000) : ∀ s ∈ (texts 5 zs).1, s.length ≤ 10000 := by
  intro s hs
  by_cases h : (texts 5 zs).2.2 = 0
  · have := (texts_one 5 zs hb h).2.2.2.2 s hs; omega
  · rw [texts_err 5 zs h] at hs; cases hs
end EntMath
