/-
  A clock that comes to its end, as plain mathematics.
-/
import Derived.Test.YtecijlgkadlmnaaHlcMath
namespace HlcMath
open StMath (St)
set_option linter.unusedVariables false
set_option linter.unusedSimpArgs false

/-- The clock behind x steps from the floor, t below the end. -/
def endC (r m t x : Int) : Ck := ⟨⟨281474976710655 - t + (m + x) / (m + 1), (m + x) % (m + 1), r⟩, m, 281474976710655⟩
theorem four {m : Int} (h0 : 0 ≤ m) (h1 : m ≤ 3) : m = 0 ∨ m = 1 ∨ m = 2 ∨ m = 3 := by omega
theorem three {m : Int} (h0 : 0 ≤ m) (h1 : m ≤ 2) : m = 0 ∨ m = 1 ∨ m = 2 := by omega
theorem steps_bd {m t : Int} (m0 : 0 ≤ m) (m1 : m ≤ 3) (t0 : 0 ≤ t) (t1 : t ≤ 2) : 0 ≤ t * (m + 1) ∧ t * (m + 1) ≤ 8 := by
  rcases four m0 m1 with rfl | rfl | rfl | rfl <;> omega
theorem endC_parts {r m t x : Int} (m0 : 0 ≤ m) (m1 : m ≤ 3) (t0 : 0 ≤ t) (t1 : t ≤ 2) (x0 : 0 ≤ x) (x1 : x ≤ t * (m + 1)) :
    281474976710655 - t ≤ (endC r m t x).s.p ∧ (endC r m t x).s.p ≤ 281474976710655 ∧ 0 ≤ (endC r m t x).s.l ∧ (endC r m t x).s.l ≤ m ∧ (x < t * (m + 1) → (endC r m t x).s.l < m ∨ (endC r m t x).s.p < 281474976710655) ∧
    (x = t * (m + 1) → (endC r m t x).s.l = m ∧ (endC r m t x).s.p = 281474976710655) := by
  unfold endC
  dsimp only
  rcases four m0 m1 with rfl | rfl | rfl | rfl <;> refine ⟨?_, ?_, ?_, ?_, ?_, ?_⟩ <;> omega
theorem endC_ok {r m t x : Int} (r0 : 0 ≤ r) (r1 : r < 64) (m0 : 0 ≤ m) (m1 : m ≤ 3) (t0 : 0 ≤ t) (t1 : t ≤ 2) (x0 : 0 ≤ x) (x1 : x ≤ t * (m + 1)) : Ok (endC r m t x) := by
  obtain ⟨h1, h2, h3, h4, _, _⟩ := endC_parts (r := r) m0 m1 t0 t1 x0 x1
  exact ⟨by omega, h2, h3, by omega, r0, r1, m0, by show m ≤ 65535; omega, by show (0 : Int) ≤ 281474976710655; decide, by show (281474976710655 : Int) ≤ 281474976710655; decide⟩
theorem end_next {r m t x n : Int} (m0 : 0 ≤ m) (m1 : m ≤ 3) (t0 : 0 ≤ t) (t1 : t ≤ 2) (x0 : 0 ≤ x) (x1 : x < t * (m + 1)) (n0 : 0 ≤ n) (n1 : n ≤ 255) :
    peek (endC r m t x) n = ((endC r m t (x + 1)).s, 0) ∧ next (endC r m t x) n = endC r m t (x + 1) ∧ StMath.less (endC r m t x).s (endC r m t (x + 1)).s = true := by
  obtain ⟨h1, h2, h3, h4, h5, _⟩ := endC_parts (r := r) m0 m1 t0 t1 x0 (by omega : x ≤ t * (m + 1))
  have hp : isPhys n = true := by rw [isPhys_iff]; omega
  have hf : foll (endC r m t x) n = some (endC r m t (x + 1)).s := by
    unfold foll
    rw [if_neg (by omega)]
    by_cases hl : (endC r m t x).s.l < (endC r m t x).m
    · rw [if_pos hl]
      congr 1
      rw [StMath.St.eq_iff]
      unfold endC at hl ⊢
      dsimp only at hl ⊢
      rcases four m0 m1 with rfl | rfl | rfl | rfl <;> refine ⟨?_, ?_, rfl⟩ <;> omega
    · rw [if_neg hl, if_pos (by have := h5 x1; have e : (endC r m t x).m = m := rfl; omega)]
      congr 1
      rw [StMath.St.eq_iff]
      unfold endC at hl ⊢
      dsimp only at hl ⊢
      rcases four m0 m1 with rfl | rfl | rfl | rfl <;> refine ⟨?_, ?_, rfl⟩ <;> omega
  obtain ⟨g1, g2, g3, g4, _, _⟩ := endC_parts (r := r) m0 m1 t0 t1 (by omega : 0 ≤ x + 1) (by omega : x + 1 ≤ t * (m + 1))
  have hpk : peek (endC r m t x) n = ((endC r m t (x + 1)).s, 0) := by
    unfold peek
    rw [if_pos hp, hf]
    show lim n (endC r m t x).d (endC r m t (x + 1)).s = _
    unfold lim
    rw [if_neg (by show ¬ (n + 281474976710655 < _); omega)]
  refine ⟨hpk, ?_, ?_⟩
  · unfold next
    rw [hpk, if_pos rfl]
    rfl
  · rw [StMath.less_iff]
    unfold endC
    dsimp only
    rcases four m0 m1 with rfl | rfl | rfl | rfl <;> omega
theorem end_last {r m t x n : Int} (m0 : 0 ≤ m) (m1 : m ≤ 3) (t0 : 0 ≤ t) (t1 : t ≤ 2) (x0 : 0 ≤ x) (x1 : x = t * (m + 1)) (n0 : 0 ≤ n) (n1 : n ≤ 255) :
    peek (endC r m t x) n = (StMath.zero, 27) ∧ next (endC r m t x) n = endC r m t x := by
  obtain ⟨h1, h2, h3, h4, _, h5⟩ := endC_parts (r := r) m0 m1 t0 t1 x0 (by omega : x ≤ t * (m + 1))
  obtain ⟨g1, g2⟩ := h5 x1
  have hp : isPhys n = true := by rw [isPhys_iff]; omega
  have hpk : peek (endC r m t x) n = (StMath.zero, 27) := by
    unfold peek foll
    rw [if_pos hp, if_neg (by omega), if_neg (by show ¬ (_ < m); omega), if_neg (by omega)]
  refine ⟨hpk, ?_⟩
  unfold next
  rw [hpk, if_neg (by decide)]
theorem end_floor {r m t : Int} (m0 : 0 ≤ m) (m1 : m ≤ 3) (t0 : 0 ≤ t) (t1 : t ≤ 2) : floor ⟨⟨0, 0, r⟩, m, 281474976710655⟩ (281474976710655 - t) = endC r m t 0 := by
  unfold floor raise
  rw [held_id (by omega) (by omega), if_pos (by left; show (0 : Int) < _; omega), Ck.eq_iff, StMath.St.eq_iff]
  unfold endC
  dsimp only
  rcases four m0 m1 with rfl | rfl | rfl | rfl <;> refine ⟨⟨?_, ?_, rfl⟩, rfl, rfl⟩ <;> omega
theorem end_end {r m t : Int} (m0 : 0 ≤ m) (m1 : m ≤ 3) (t0 : 0 ≤ t) (t1 : t ≤ 2) : (endC r m t (t * (m + 1))).s = ⟨281474976710655, m, r⟩ := by
  obtain ⟨_, _, _, _, _, h5⟩ := endC_parts (r := r) (x := t * (m + 1)) m0 m1 t0 t1 (steps_bd m0 m1 t0 t1).1 (Int.le_refl _)
  obtain ⟨g1, g2⟩ := h5 rfl
  rw [StMath.St.eq_iff]
  exact ⟨g2, g1, rfl⟩
end HlcMath
