/-
  Walk of newsreelseat.Changed: some bytes, one of them changed, or cut, or more: bytes again, in new memory.
-/
import Derived.Test.YteockpllnhjooaaGreatDoorFnPlace
namespace Go.Proofs.YteockpllnhjooaaGreatDoor
open Go.RowKit NumMath
set_option maxRecDepth 100000
set_option linter.unusedVariables false
set_option linter.unusedSimpArgs false

/-- A slice of bytes that lies in memory. -/
def Bytes (w : World) (v : Value) (ys : List Int) : Prop := ∃ a c, v = .slice a ys.length c ∧ Row .u8 w a ys ∧ (∀ x ∈ ys, 0 ≤ x ∧ x ≤ 255) ∧ ys.length ≤ c ∧ c ≤ maxLen ∧ (a = none → c = 0)
theorem own_bytes {w : World} {base n : Nat} {v : Value} {xs : List Int} (h : w.ownsRow base 5 1 v n (xs.map (Value.int .u8))) (hb : ∀ x ∈ xs, 0 ≤ x ∧ x ≤ 255) : Bytes w v xs := by
  obtain ⟨a, c, hv, hr, hc, hm, hn⟩ := own_shape h
  exact ⟨a, c, hv, hr, hb, hc, hm, hn⟩
theorem xor8_byte (x y : Int) : 0 ≤ bits .xor .u8 x y ∧ bits .xor .u8 x y ≤ 255 := ⟨bits_lo_u8 _ _ _, bits_hi_u8 _ _ _⟩

end Go.Proofs.YteockpllnhjooaaGreatDoor
