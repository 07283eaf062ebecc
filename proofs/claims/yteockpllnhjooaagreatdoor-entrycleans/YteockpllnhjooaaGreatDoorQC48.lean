/-
  LibEqual.
-/
import Derived.Test.YteockpllnhjooaaGreatDoorQC02
import Derived.Lib.Strings
namespace Go.Proofs.YteockpllnhjooaaGreatDoor
open Go.RowKit NumMath
set_option maxRecDepth 100000
set_option linter.unusedVariables false
set_option linter.unusedSimpArgs false

theorem strOf_inj {xs ys : List Int} (hx : ∀ c ∈ xs, 0 ≤ c ∧ c ≤ 255) (hy : ∀ c ∈ ys, 0 ≤ c ∧ c ≤ 255) (h : strOfNums xs = strOfNums ys) : xs = ys := by
  have h1 : (xs.map fun n => UInt8.ofNat n.toNat) = ys.map fun n => UInt8.ofNat n.toNat := by
    have := congrArg (fun b => b.data.toList) h
    simpa [strOfNums_data] using this
  clear h
  induction xs generalizing ys with
  | nil => cases ys with
    | nil => rfl
    | cons y ys => simp at h1
  | cons x xs ih => cases ys with
    | nil => simp at h1
    | cons y ys =>
      simp only [List.map_cons, List.cons.injEq] at h1
      have hx0 := hx x (by simp)
      have hy0 := hy y (by simp)
      have e : x.toNat = y.toNat := by
        have := congrArg UInt8.toNat h1.1
        simp only [UInt8.toNat_ofNat'] at this
        omega
      rw [show x = y by omega, ih (fun c hc => hx c (by simp [hc])) (fun c hc => hy c (by simp [hc])) h1.2]
theorem strOf_eq {xs ys : List Int} (hx : ∀ c ∈ xs, 0 ≤ c ∧ c ≤ 255) (hy : ∀ c ∈ ys, 0 ≤ c ∧ c ≤ 255) : ((strOfNums xs).toList == (strOfNums ys).toList) = decide (xs = ys) := by
  by_cases h : xs = ys
  · subst h; simp
  · have : (strOfNums xs).toList ≠ (strOfNums ys).toList := fun e => h (strOf_inj hx hy (by
      rw [Go.Lib.toList_data, Go.Lib.toList_data] at e
      have : (strOfNums xs).data = (strOfNums ys).data := Array.toList_inj.1 e
      rcases hxs : strOfNums xs with ⟨d⟩
      rcases hys : strOfNums ys with ⟨d'⟩
      rw [hxs, hys] at this
      rw [show d = d' from this]))
    simp [h, this]

end Go.Proofs.YteockpllnhjooaaGreatDoor
