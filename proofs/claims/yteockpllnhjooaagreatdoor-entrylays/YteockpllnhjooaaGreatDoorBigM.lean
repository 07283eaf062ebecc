/-
  The number of some bytes, one byte more.
-/
import Derived.Test.YteockpllnhjooaaGreatDoorKit
namespace Go.Proofs.YteockpllnhjooaaGreatDoor
open Go.RowKit NumMath
set_option maxRecDepth 100000
set_option linter.unusedVariables false
set_option linter.unusedSimpArgs false

theorem or8big {x c : Int} (h0 : 0 ≤ x) (h1 : x < 72057594037927936) (c0 : 0 ≤ c) (c1 : c ≤ 255) : bits .or .u64 (x * 256) c = x * 256 + c := by
  refine bits_join .u64 64 (by decide) wraps64 8 (x * 256) c (by omega) ?_ ?_ c0 ?_ ?_
  · rw [p8]; omega
  · rw [p64]; omega
  · rw [p8]; omega
  · rw [p64]; omega

theorem big_step {zs : List Int} (hb : ∀ c ∈ zs, 0 ≤ c ∧ c ≤ 255) {k : Nat} (hk : k < zs.length) (h8 : k < 8) : bits .or .u64 (bigL (zs.take k) * 256) (zs[k]?.getD 0) = bigL (zs.take (k + 1)) := by
  have h1 := bigL_take hb k 7 (by omega)
  have : (256 : Int) ^ 7 = 72057594037927936 := by decide
  rw [this] at h1
  have h2 := hb _ (mem_getD zs k hk)
  rw [or8big h1.1 h1.2 h2.1 h2.2, take_snoc zs k hk, bigL_snoc]

end Go.Proofs.YteockpllnhjooaaGreatDoor
