/-
  Plain facts on three texts of one length, bit against bit.
-/
import Derived.Test.YtpffjeoiacaihaaDoorL2Math
namespace Go.Proofs.YtpffjeoiacaihaaDoor
open Go.RowKit NumMath
set_option maxRecDepth 100000
set_option linter.unusedVariables false
set_option linter.unusedSimpArgs false

/-- The first k bytes of what three texts make, and a's own behind. -/
def lin (A B C : List Int) : Nat → List Int
  | 0 => A
  | k + 1 => (lin A B C k).set k (bits .xor .u8 (bits .xor .u8 (A[k]?.getD 0) (B[k]?.getD 0)) (C[k]?.getD 0))

theorem lin_len (A B C : List Int) : ∀ k, (lin A B C k).length = A.length
  | 0 => rfl
  | k + 1 => by show (List.set _ _ _).length = _; rw [List.length_set]; exact lin_len A B C k
theorem lin_byte {A : List Int} (h : ∀ c ∈ A, 0 ≤ c ∧ c ≤ 255) (B C : List Int) : ∀ k, ∀ c ∈ lin A B C k, 0 ≤ c ∧ c ≤ 255
  | 0 => h
  | k + 1 => bytes_set (lin_byte h B C k) _ (xor8_bd _ _)

theorem lin_at (A B C : List Int) : ∀ k, k ≤ A.length → ∀ i, i < A.length → (lin A B C k)[i]?.getD 0 = if i < k then bits .xor .u8 (bits .xor .u8 (A[i]?.getD 0) (B[i]?.getD 0)) (C[i]?.getD 0) else A[i]?.getD 0
  | 0, _, i, hi => by simp [lin]
  | k + 1, hk, i, hi => by
    show ((lin A B C k).set k _)[i]?.getD 0 = _
    rw [List.getElem?_set]
    by_cases e : k = i
    · subst e
      have hl := lin_len A B C k
      simp [hl, hi]
    · rw [if_neg e, lin_at A B C k (by omega) i hi]
      by_cases h : i < k
      · rw [if_pos h, if_pos (by omega)]
      · rw [if_neg h, if_neg (by omega)]

theorem crc_linear {A B C : List Int} (ha : ∀ c ∈ A, 0 ≤ c ∧ c ≤ 255) (hb : ∀ c ∈ B, 0 ≤ c ∧ c ≤ 255) (hc : ∀ c ∈ C, 0 ≤ c ∧ c ≤ 255) (h1 : A.length = B.length) (h2 : A.length = C.length) :
    crcOf (lin A B C A.length) = crcOf A ^^^ crcOf B ^^^ crcOf C := by
  unfold crcOf
  rw [← CrcMath.more_three (nats A) (nats B) (nats C) (by simp [nats, h1]) (by simp [nats, h2])]
  congr 1
  have hl := lin_len A B C A.length
  apply List.ext_getElem
  · simp [nats, hl]; omega
  intro i hi hi'
  have hiA : i < A.length := by simp [nats, hl] at hi; exact hi
  have hiB : i < B.length := by omega
  have hiC : i < C.length := by omega
  have e := lin_at A B C A.length (Nat.le_refl _) i hiA
  rw [if_pos hiA] at e
  have g0 : (lin A B C A.length)[i]?.getD 0 = (lin A B C A.length)[i]'(by omega) := by simp [show i < (lin A B C A.length).length by omega]
  have g1 : A[i]?.getD 0 = A[i] := by simp [hiA]
  have g2 : B[i]?.getD 0 = B[i] := by simp [hiB]
  have g3 : C[i]?.getD 0 = C[i] := by simp [hiC]
  rw [g0, g1, g2, g3] at e
  have b1 := ha A[i] (List.getElem_mem _)
  have b2 := hb B[i] (List.getElem_mem _)
  have b3 := hc C[i] (List.getElem_mem _)
  rw [xor8_nat (xor8_bd _ _) b3, xor8_nat b1 b2, Int.toNat_natCast] at e
  simp only [nats, List.getElem_map, List.getElem_zipWith]
  rw [e, Int.toNat_natCast]
end Go.Proofs.YtpffjeoiacaihaaDoor
