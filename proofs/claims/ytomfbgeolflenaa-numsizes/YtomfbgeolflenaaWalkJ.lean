/-
  The walk of the law NumSizes: greater numbers never have fewer bytes, and so many bytes hold so many digits.
-/
import Derived.Test.YtomfbgeolflenaaWalkI
namespace Go.Proofs.Ytomfbgeolflenaa
open Go.RowKit NumMath
set_option linter.unusedVariables false

theorem D_hi {v : Int} (h0 : 0 ≤ v) (h1 : v ≤ 18446744073709551615) : v < 128 ^ (D v).length := by
  obtain ⟨pre, c, hd, hf, hl⟩ := D_form h0 h1
  have := (lowL_bd (pre ++ [c])).2
  rw [hd, ← hl]; exact this

theorem D_lo {v : Int} (h0 : 0 ≤ v) (h1 : v ≤ 18446744073709551615) (h : 1 < (D v).length) : 128 ^ ((D v).length - 1) ≤ v := by
  obtain ⟨pre, c, hd, hf, hl⟩ := D_form h0 h1
  rw [hd] at h ⊢
  simp only [List.length_append, List.length_cons, List.length_nil, Nat.add_sub_cancel] at h ⊢
  rw [lowL_snoc] at hl
  have hb := lowL_bd pre
  have hc : 1 ≤ c := by
    rcases hf.2.2.2 with e | e
    · subst e; simp at h
    · have := hf.2.1; omega
  have hcm : c % 128 = c := Int.emod_eq_of_lt (by omega) hf.2.2.1
  rw [hcm] at hl
  have hp : (0 : Int) ≤ 128 ^ pre.length := Int.pow_nonneg (by omega)
  have : 1 * 128 ^ pre.length ≤ c * 128 ^ pre.length := Int.mul_le_mul_of_nonneg_right hc hp
  omega

theorem pow128 {a b : Nat} (h : a ≤ b) : (128 : Int) ^ a ≤ 128 ^ b := by
  have := Nat.pow_le_pow_right (show 0 < 128 by omega) h
  have h2 : ((128 : Nat) : Int) ^ a ≤ ((128 : Nat) : Int) ^ b := by
    rw [← Int.natCast_pow, ← Int.natCast_pow]; exact Int.ofNat_le.2 this
  exact h2

theorem D_mono {x y : Int} (hx : 0 ≤ x) (hxy : x ≤ y) (hy : y ≤ 18446744073709551615) : (D x).length ≤ (D y).length := by
  rcases Nat.lt_or_ge (D y).length (D x).length with h | h
  · have hl := D_len y
    have h1 := D_lo hx (by omega) (by omega)
    have h2 := D_hi (by omega : 0 ≤ y) hy
    have h3 := pow128 (show (D y).length ≤ (D x).length - 1 by omega)
    omega
  · exact h

theorem e_small {n : Nat} {x : Int} (h0 : 0 ≤ x) (h1 : x < 128 ^ n) : x / 2 ^ (7 * n) = 0 := by
  rw [two7]; exact Int.ediv_eq_zero_of_lt h0 h1
theorem e_great {n : Nat} {x : Int} (h1 : 128 ^ n ≤ x) : 0 < x / 2 ^ (7 * n) := by
  rw [two7]
  have hp : (0 : Int) < 128 ^ n := Int.pow_pos (by omega)
  have h2 : (128 : Int) ^ n / 128 ^ n ≤ x / 128 ^ n := Int.ediv_le_ediv hp h1
  rw [Int.ediv_self (by omega)] at h2
  omega

theorem sizeE (j : Nat) (hj : j < 9) : 1 ≤ IntKind.u64.wrap (2 ^ (7 * j + 7)) ∧ IntKind.u64.wrap (2 ^ (7 * j + 7)) ≤ 18446744073709551615 ∧ (D (IntKind.u64.wrap (2 ^ (7 * j + 7)))).length = j + 2 ∧ (D (IntKind.u64.wrap (2 ^ (7 * j + 7)) - 1)).length = j + 1 := by
  have h : ∀ i : Fin 9, 1 ≤ IntKind.u64.wrap (2 ^ (7 * i.val + 7)) ∧ IntKind.u64.wrap (2 ^ (7 * i.val + 7)) ≤ 18446744073709551615 ∧ (D (IntKind.u64.wrap (2 ^ (7 * i.val + 7)))).length = i.val + 2 ∧ (D (IntKind.u64.wrap (2 ^ (7 * i.val + 7)) - 1)).length = i.val + 1 := by
    decide +kernel
  exact h ⟨j, hj⟩

set_option maxHeartbeats 1600000 in
theorem numSizes_walk (a b k : Int) (W : World) (wa : (Lit.int .u64 a).wf = true) (wb : (Lit.int .u64 b).wf = true) (wk : (Lit.int .u8 k).wf = true) :
    Calls Try.prog 7 #[.int .u64 a, .int .u64 b, .int .u8 k] W fun e w' => e = .returned (.bool true) ∧ Below W.heap.size W w' := by
  obtain ⟨ha0, ha1⟩ := bounds_u64 wa
  obtain ⟨hb0, hb1⟩ := bounds_u64 wb
  obtain ⟨hk0, hk1⟩ := bounds_u8 wk
  clear wa wb wk
  obtain ⟨j, hj, hkj⟩ : ∃ j : Nat, j < 9 ∧ k % 9 = (j : Int) := ⟨(k % 9).toNat, by omega, by omega⟩
  obtain ⟨hE1, hE2, hE3, hE4⟩ := sizeE j hj
  obtain ⟨E, hE⟩ : ∃ E, IntKind.u64.wrap (2 ^ (7 * j + 7)) = E := ⟨_, rfl⟩
  rw [hE] at hE1 hE2 hE3 hE4
  have H3 : Hid ((D E).length = j + 2) := hE3
  have H4 : Hid ((D (E - 1)).length = j + 1) := hE4
  clear hE3 hE4
  obtain ⟨x, y, hx0, hxy, hy1, hxe⟩ : ∃ x y, 0 ≤ x ∧ x ≤ y ∧ y ≤ 18446744073709551615 ∧ ((a < b ∧ x = a ∧ y = b) ∨ (a = b ∧ x = a ∧ y = b) ∨ (b < a ∧ x = b ∧ y = a)) := by
    rcases Int.lt_trichotomy a b with h | h | h
    · exact ⟨a, b, by omega, by omega, by omega, .inl ⟨h, rfl, rfl⟩⟩
    · exact ⟨a, b, by omega, by omega, by omega, .inr (.inl ⟨h, rfl, rfl⟩)⟩
    · exact ⟨b, a, by omega, by omega, by omega, .inr (.inr ⟨h, rfl, rfl⟩)⟩
  have hl := D_len x
  have hhi := D_hi hx0 (by omega)
  have hlo := fun h => D_lo hx0 (by omega) h
  have hmn := D_mono hx0 hxy hy1
  generalize hn : (D x).length = n at *
  have HN : Hid ((D x).length = n) := hn
  generalize hnm : (D y).length = m at *
  have HM : Hid ((D y).length = m) := hnm
  clear hn hnm
  have hcase : n = 1 ∨ n = 10 ∨ (1 < n ∧ n < 10) := by omega
  have q1 : 1 < n → 0 < x / 2 ^ (7 * (n - 1)) := fun h => e_great (hlo h)
  have q2 := e_small hx0 hhi
  clear hhi hlo
  rcases hxe with ⟨hab, rfl, rfl⟩ | ⟨rfl, rfl, rfl⟩ | ⟨hab, rfl, rfl⟩
  all_goals
    go_enter Try.func7, Try.ntmps7
    go_wp2_with fail
    refine (known_any _).mono ?_
    rintro e w1 ⟨rfl, hbw⟩
    go_wp2_with fail
    refine (size_any _ _ (by omega) (by omega)).mono ?_
    rintro e w' ⟨rfl, rfl⟩
    rw [HN.out]
    go_wp2_with fail
    refine (size_any _ _ (by omega) (by omega)).mono ?_
    rintro e w' ⟨rfl, rfl⟩
    rw [HM.out]
    rcases hcase with rfl | rfl | ⟨h1, h2⟩
    · clear q1
      go_wp2_with fail
      refine (size_any _ _ (by omega) (by omega)).mono ?_
      rintro e w' ⟨rfl, rfl⟩
      rw [H3.out]
      go_wp2_with fail
      refine (size_any _ _ (by omega) (by omega)).mono ?_
      rintro e w' ⟨rfl, rfl⟩
      rw [H4.out]
      go_wp2
      go_ret
      exact ⟨rfl, hbw⟩
    · have q1' := q1 (by omega)
      clear q1
      go_wp2_with fail
      refine (size_any _ _ (by omega) (by omega)).mono ?_
      rintro e w' ⟨rfl, rfl⟩
      rw [H3.out]
      go_wp2_with fail
      refine (size_any _ _ (by omega) (by omega)).mono ?_
      rintro e w' ⟨rfl, rfl⟩
      rw [H4.out]
      go_wp2
      go_ret
      exact ⟨rfl, hbw⟩
    · have q1' := q1 (by omega)
      clear q1
      go_wp2_with fail
      refine (size_any _ _ (by omega) (by omega)).mono ?_
      rintro e w' ⟨rfl, rfl⟩
      rw [H3.out]
      go_wp2_with fail
      refine (size_any _ _ (by omega) (by omega)).mono ?_
      rintro e w' ⟨rfl, rfl⟩
      rw [H4.out]
      go_wp2
      go_ret
      exact ⟨rfl, hbw⟩
end Go.Proofs.Ytomfbgeolflenaa
