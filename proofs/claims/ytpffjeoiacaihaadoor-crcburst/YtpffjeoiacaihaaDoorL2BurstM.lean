/-
  Plain facts on four bytes in a row that are changed by a word.
-/
import Derived.Test.YtpffjeoiacaihaaDoorL2Math
namespace Go.Proofs.YtpffjeoiacaihaaDoor
open Go.RowKit NumMath
set_option maxRecDepth 100000
set_option linter.unusedVariables false
set_option linter.unusedSimpArgs false

/-- The bytes from p on, k of them, changed by the bytes of x. -/
def bur (l : List Int) (p x : Nat) : Nat → List Int
  | 0 => l
  | k + 1 => (bur l p x k).set (p + k) (bits .xor .u8 ((bur l p x k)[p + k]?.getD 0) ((x / 2 ^ (8 * k) % 256 : Nat) : Int))

theorem bur_len (l : List Int) (p x : Nat) : ∀ k, (bur l p x k).length = l.length
  | 0 => rfl
  | k + 1 => by show (List.set _ _ _).length = _; rw [List.length_set]; exact bur_len l p x k
theorem bur_byte {l : List Int} (h : ∀ c ∈ l, 0 ≤ c ∧ c ≤ 255) (p x : Nat) : ∀ k, ∀ c ∈ bur l p x k, 0 ≤ c ∧ c ≤ 255
  | 0 => h
  | k + 1 => bytes_set (bur_byte h p x k) _ (xor8_bd _ _)

theorem four_parts (l : List Int) (p : Nat) (h : p + 4 ≤ l.length) : ∃ P c0 c1 c2 c3 R, l = P ++ c0 :: c1 :: c2 :: c3 :: R ∧ P.length = p := by
  refine ⟨l.take p, l[p]?.getD 0, l[p+1]?.getD 0, l[p+2]?.getD 0, l[p+3]?.getD 0, l.drop (p + 4), ?_, by simp; omega⟩
  have e := List.take_append_drop p l
  rw [List.drop_eq_getElem_cons (by omega), List.drop_eq_getElem_cons (by omega), List.drop_eq_getElem_cons (by omega), List.drop_eq_getElem_cons (by omega)] at e
  have g0 : l[p]?.getD 0 = l[p] := by simp [show p < l.length by omega]
  have g1 : l[p+1]?.getD 0 = l[p+1] := by simp [show p + 1 < l.length by omega]
  have g2 : l[p+2]?.getD 0 = l[p+2] := by simp [show p + 2 < l.length by omega]
  have g3 : l[p+3]?.getD 0 = l[p+3] := by simp [show p + 3 < l.length by omega]
  rw [g0, g1, g2, g3]
  exact e.symm

theorem bur_step (P : List Int) (l : List Int) (x k : Nat) : bur (P ++ l) P.length x k = P ++ bur l 0 x k := by
  induction k with
  | zero => rfl
  | succ k ih =>
    show (bur (P ++ l) P.length x k).set _ _ = P ++ (bur l 0 x k).set _ _
    rw [ih, List.set_append_right _ _ (by omega), List.getElem?_append_right (by omega)]
    simp

theorem bur4 (c0 c1 c2 c3 : Int) (R : List Int) (x : Nat) : bur (c0 :: c1 :: c2 :: c3 :: R) 0 x 4 =
    bits .xor .u8 c0 ((x % 256 : Nat) : Int) :: bits .xor .u8 c1 ((x / 256 % 256 : Nat) : Int) :: bits .xor .u8 c2 ((x / 65536 % 256 : Nat) : Int) :: bits .xor .u8 c3 ((x / 16777216 % 256 : Nat) : Int) :: R := by
  simp [bur]

/-- What is sealed, with four bytes ahead of its checksum changed by a word that isn't 0. -/
theorem seal_burst {zs : List Int} (hb : ∀ c ∈ zs, 0 ≤ c ∧ c ≤ 255) (p x : Nat) (hp : p + 4 ≤ zs.length) (hx : x < 4294967296) (hne : x ≠ 0) :
    openB (bur (sealL zs) p x 4) = false ∧ crcOf ((bur (sealL zs) p x 4).take zs.length) ≠ crcOf zs := by
  obtain ⟨P, c0, c1, c2, c3, R, hz, hP⟩ := four_parts zs p hp
  have hc : ∀ c, c ∈ [c0, c1, c2, c3] → 0 ≤ c ∧ c ≤ 255 := by
    intro c hc; apply hb; rw [hz]; simp at hc ⊢; rcases hc with h | h | h | h <;> simp [h]
  have h0 := hc c0 (by simp)
  have h1 := hc c1 (by simp)
  have h2 := hc c2 (by simp)
  have h3 := hc c3 (by simp)
  have hPb : ∀ y ∈ nats P, y < 256 := nats_byte (fun y hy => hb y (by rw [hz]; simp [hy]))
  have hRb : ∀ y ∈ nats R, y < 256 := nats_byte (fun y hy => hb y (by rw [hz]; simp [hy]))
  have hbu := fun l => bur4 c0 c1 c2 c3 l x
  rw [xor8_nat h0 (by omega), xor8_nat h1 (by omega), xor8_nat h2 (by omega), xor8_nat h3 (by omega)] at hbu
  simp only [Int.toNat_natCast] at hbu
  have key : crcOf (bur zs p x 4) ≠ crcOf zs := by
    have := CrcMath.more_mid (s := 0) (by decide) (nats P) (nats [c0, c1, c2, c3]) [c0.toNat ^^^ x % 256, c1.toNat ^^^ x / 256 % 256, c2.toNat ^^^ x / 65536 % 256, c3.toNat ^^^ x / 16777216 % 256] (nats R) hPb (nats_byte hc)
      (by
        have q : ∀ a b : Nat, a < 256 → b < 256 → a ^^^ b < 256 := fun a b h h' => Nat.xor_lt_two_pow (n := 8) h h'
        intro c hc
        simp at hc
        rcases hc with rfl | rfl | rfl | rfl <;> exact q _ _ (by omega) (by omega)) hRb
      (fun t ht => CrcMath.burst t ht _ _ _ _ x (by omega) (by omega) (by omega) (by omega) hx hne)
    unfold crcOf
    rw [hz, ← hP, bur_step, hbu]
    simpa [nats] using this
  have hsb : bur (sealL zs) p x 4 = bur zs p x 4 ++ fixL 4 (crcOf zs : Nat) := by
    unfold sealL
    generalize fixL 4 (crcOf zs : Nat) = F
    rw [hz, ← hP]
    rw [List.append_assoc, bur_step, bur_step, List.append_assoc]
    simp [bur]
  rw [hsb]
  refine ⟨open_head hb (bur_len _ _ _ _) key, ?_⟩
  rw [← bur_len zs p x 4, List.take_left]
  exact key
end Go.Proofs.YtpffjeoiacaihaaDoor
