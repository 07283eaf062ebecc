/-
  What newsreelref4.next reckons.
-/
import Derived.Test.YteockpllnhjooaaGreatDoorTxtMath
namespace TxtMath
set_option linter.unusedVariables false
set_option linter.unusedSimpArgs false
/-- The number that k further bytes make. -/
def acc (l : List Nat) (c0 : Nat) : Nat → Nat
  | 0 => c0
  | k + 1 => acc l c0 k * 64 + byteAt l (k + 1) % 64
theorem acc_lt (l : List Nat) (c0 : Nat) (h : c0 < 32) : ∀ k, k ≤ 3 → acc l c0 k < 8388608
  | 0, _ => by simp [acc]; omega
  | 1, _ => by simp [acc]; omega
  | 2, _ => by simp [acc]; omega
  | 3, _ => by simp [acc]; omega
  | k + 4, h => by omega
/-- Bytes 1 .. k go on. -/
def goes (l : List Nat) (k : Nat) : Prop := ∀ j, 1 ≤ j → j ≤ k → contAt l j = true
/-- The number is none of that many bytes. -/
def off (v least : Nat) : Bool := decide (v < least) || decide (1114111 < v) || (decide (55296 ≤ v) && decide (v < 57344))
def Multi (l : List Nat) (n c0 least : Nat) : Prop :=
  (n = 1 ∧ c0 = byteAt l 0 % 32 ∧ least = 128 ∧ 192 ≤ byteAt l 0 ∧ byteAt l 0 < 224) ∨ (n = 2 ∧ c0 = byteAt l 0 % 16 ∧ least = 2048 ∧ 224 ≤ byteAt l 0 ∧ byteAt l 0 < 240) ∨ (n = 3 ∧ c0 = byteAt l 0 % 8 ∧ least = 65536 ∧ 240 ≤ byteAt l 0 ∧ byteAt l 0 < 248)
theorem Multi.n_le {l : List Nat} {n c0 least : Nat} (h : Multi l n c0 least) : 1 ≤ n ∧ n ≤ 3 ∧ c0 < 32 ∧ least ≤ 65536 := by
  rcases h with ⟨h1, h2, h3, _⟩ | ⟨h1, h2, h3, _⟩ | ⟨h1, h2, h3, _⟩ <;> omega
theorem dec_stop {l : List Nat} {n c0 least : Nat} (h : Multi l n c0 least) (k : Nat) (h1 : 1 ≤ k) (h2 : k ≤ n) (hc : contAt l k = false) : dec l = (65533, 1) := by
  rcases h with ⟨rfl, _, _, ha, hb⟩ | ⟨rfl, _, _, ha, hb⟩ | ⟨rfl, _, _, ha, hb⟩
  · have e : k = 1 := by omega
    subst e
    unfold dec
    rw [if_neg (by omega), if_neg (by simp [hc]), if_neg (by simp [hc]), if_neg (by simp [hc])]
  · unfold dec
    rw [if_neg (by omega), if_neg (by simp; omega)]
    have : k = 1 ∨ k = 2 := by omega
    rcases this with rfl | rfl
    · rw [if_neg (by simp [hc]), if_neg (by simp [hc])]
    · rw [if_neg (by simp [hc]), if_neg (by simp [hc])]
  · unfold dec
    rw [if_neg (by omega), if_neg (by simp; omega), if_neg (by simp; omega)]
    have : k = 1 ∨ k = 2 ∨ k = 3 := by omega
    rcases this with rfl | rfl | rfl
    · rw [if_neg (by simp [hc])]
    · rw [if_neg (by simp [hc])]
    · rw [if_neg (by simp [hc])]
theorem dec_goes {l : List Nat} {n c0 least : Nat} (h : Multi l n c0 least) (hg : goes l n) : dec l = if off (acc l c0 n) least then (65533, 1) else (acc l c0 n, n + 1) := by
  rcases h with ⟨rfl, rfl, rfl, ha, hb⟩ | ⟨rfl, rfl, rfl, ha, hb⟩ | ⟨rfl, rfl, rfl, ha, hb⟩
  · have c1 := hg 1 (by omega) (by omega)
    have e : byteAt l 0 / 32 = 6 := by omega
    unfold dec
    rw [if_neg (by omega), if_pos (by simp [c1, e])]
    have ev : byteAt l 0 % 32 * 64 + byteAt l 1 % 64 = acc l (byteAt l 0 % 32) 1 := by simp [acc]
    have hv : acc l (byteAt l 0 % 32) 1 < 2048 := by rw [← ev]; omega
    rw [ev]
    generalize acc l (byteAt l 0 % 32) 1 = v at *
    by_cases hx : v ≥ 128
    · rw [if_pos hx, if_neg (by simp [off]; omega)]
    · rw [if_neg hx, if_pos (by simp [off]; omega)]
  · have c1 := hg 1 (by omega) (by omega)
    have c2 := hg 2 (by omega) (by omega)
    have e : byteAt l 0 / 16 = 14 := by omega
    have e' : ¬ byteAt l 0 / 32 = 6 := by omega
    unfold dec
    rw [if_neg (by omega), if_neg (by simp [e']), if_pos (by simp [c1, c2, e])]
    have ev : byteAt l 0 % 16 * 4096 + byteAt l 1 % 64 * 64 + byteAt l 2 % 64 = acc l (byteAt l 0 % 16) 2 := by simp [acc]; omega
    rw [ev]
    generalize acc l (byteAt l 0 % 16) 2 = v at *
    by_cases hx : off v 2048 = true
    · rw [if_pos hx, if_neg (by simp [off] at hx; simp [valid]; omega)]
    · rw [if_neg hx, if_pos (by simp [off] at hx; simp [valid]; omega)]
  · have c1 := hg 1 (by omega) (by omega)
    have c2 := hg 2 (by omega) (by omega)
    have c3 := hg 3 (by omega) (by omega)
    have e : byteAt l 0 / 8 = 30 := by omega
    have e' : ¬ byteAt l 0 / 32 = 6 := by omega
    have e'' : ¬ byteAt l 0 / 16 = 14 := by omega
    unfold dec
    rw [if_neg (by omega), if_neg (by simp [e']), if_neg (by simp [e'']), if_pos (by simp [c1, c2, c3, e])]
    have ev : byteAt l 0 % 8 * 262144 + byteAt l 1 % 64 * 4096 + byteAt l 2 % 64 * 64 + byteAt l 3 % 64 = acc l (byteAt l 0 % 8) 3 := by simp [acc]; omega
    rw [ev]
    generalize acc l (byteAt l 0 % 8) 3 = v at *
    by_cases hx : off v 65536 = true
    · rw [if_pos hx, if_neg (by simp [off] at hx; simp [valid]; omega)]
    · rw [if_neg hx, if_pos (by simp [off] at hx; simp [valid]; omega)]
theorem dec_low {l : List Nat} (h : byteAt l 0 < 128) : dec l = (byteAt l 0, 1) := by unfold dec; rw [if_pos h]
theorem dec_other {l : List Nat} (h : (128 ≤ byteAt l 0 ∧ byteAt l 0 < 192) ∨ 248 ≤ byteAt l 0) : dec l = (65533, 1) := by
  have e1 : ¬ byteAt l 0 < 128 := by omega
  have e2 : ¬ byteAt l 0 / 32 = 6 ∨ 256 ≤ byteAt l 0 := by omega
  unfold dec
  by_cases h8 : byteAt l 0 < 256
  · have e3 : ¬ byteAt l 0 / 32 = 6 := by omega
    have e4 : ¬ byteAt l 0 / 16 = 14 := by omega
    have e5 : ¬ byteAt l 0 / 8 = 30 := by omega
    rw [if_neg e1, if_neg (by simp [e3]), if_neg (by simp [e4]), if_neg (by simp [e5])]
  · have e3 : ¬ byteAt l 0 / 32 = 6 := by omega
    have e4 : ¬ byteAt l 0 / 16 = 14 := by omega
    have e5 : ¬ byteAt l 0 / 8 = 30 := by omega
    rw [if_neg e1, if_neg (by simp [e3]), if_neg (by simp [e4]), if_neg (by simp [e5])]
end TxtMath
