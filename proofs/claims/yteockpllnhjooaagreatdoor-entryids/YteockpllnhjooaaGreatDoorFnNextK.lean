/-
  Walk of newsreelref4.next.
-/
import Derived.Test.YteockpllnhjooaaGreatDoorRefMath
import Derived.Test.YteockpllnhjooaaGreatDoorStrKit
import Derived.Laws.BitsLemmas
namespace Go.Proofs.YteockpllnhjooaaGreatDoor
open Go.RowKit NumMath
set_option maxRecDepth 100000
set_option linter.unusedVariables false
set_option linter.unusedSimpArgs false

theorem wraps62 : ∀ n : Int, 0 ≤ n → n < 2 ^ 62 → IntKind.i64.wrap n = n := by
  intro n h0 h1
  rw [show (2 : Int) ^ 62 = 4611686018427387904 by decide] at h1
  rw [IntKind.wrap_i64]; omega
theorem mask64 (i : Nat) (hi : i ≤ 62) (c : Nat) (hc : c < 4611686018427387904) : bits .and .i64 (c : Int) (2 ^ i - 1) = ((c % 2 ^ i : Nat) : Int) := by
  rw [bits_mask .i64 62 (by decide) wraps62 i hi (c : Int) (by omega) (by rw [show (2 : Int) ^ 62 = 4611686018427387904 by decide]; omega)]
  simp
theorem and31 (c : Nat) (hc : c < 256) : bits .and .i64 (c : Int) 31 = ((c % 32 : Nat) : Int) := mask64 5 (by decide) c (by omega)
theorem and15 (c : Nat) (hc : c < 256) : bits .and .i64 (c : Int) 15 = ((c % 16 : Nat) : Int) := mask64 4 (by decide) c (by omega)
theorem and7 (c : Nat) (hc : c < 256) : bits .and .i64 (c : Int) 7 = ((c % 8 : Nat) : Int) := mask64 3 (by decide) c (by omega)
theorem mask8 (c : Nat) (hc : c < 256) : bits .and .u8 (c : Int) 63 = ((c % 64 : Nat) : Int) := by
  have := bits_mask .u8 8 (by decide) wraps_u8 6 (by decide) (c : Int) (by omega) (by omega)
  rw [show ((2 : Int) ^ 6 - 1) = 63 by decide] at this
  rw [this]; simp
theorem or6 (a b : Nat) (ha : a < 8388608) (hb : b < 64) : bits .or .i64 ((a : Int) * 64) (b : Int) = ((a * 64 + b : Nat) : Int) := by
  have := bits_join .i64 62 (by decide) wraps62 6 ((a : Int) * 64) (b : Int) (by omega) (by rw [show (2 : Int) ^ 6 = 64 by decide]; omega) (by rw [show (2 : Int) ^ 62 = 4611686018427387904 by decide]; omega) (by omega) (by rw [show (2 : Int) ^ 6 = 64 by decide]; omega) (by rw [show (2 : Int) ^ 62 = 4611686018427387904 by decide]; omega)
  rw [this]; simp
theorem index_strN (l : List Nat) (hb : ∀ c ∈ l, c < 256) (j : Nat) (hj : j < l.length) (k : IntKind) (w : World) : (Instr.index 9 (.string (strN l)) (.int k (j : Int))).run Tryz.prog w = .ok (.int .u8 ((l[j]?.getD 0 : Nat) : Int)) w := by
  rw [run_index_string w 9 (strN l) k (j : Int) Tryz.underlying9, dif_pos ⟨by omega, by rw [strN_size]; omega⟩]
  have hc : l[j]? = some (l[j]) := List.getElem?_eq_getElem hj
  have hlt := hb l[j] (List.getElem_mem hj)
  have e : (strN l)[(j : Int).toNat]'(by rw [strN_size]; simpa using hj) = UInt8.ofNat l[j] := by
    have h1 : (strN l).data.toList[j]? = some (UInt8.ofNat l[j]) := by rw [strN_data]; simp [hc]
    obtain ⟨h2, h3⟩ := List.getElem?_eq_some_iff.1 h1
    rw [← h3]
    simp [ByteArray.getElem_eq_getElem_data]
  rw [e, hc]
  have : (UInt8.ofNat l[j]).toNat = l[j] := by simp; omega
  rw [this]; rfl

end Go.Proofs.YteockpllnhjooaaGreatDoor
