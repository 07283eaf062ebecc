/-
  What HlcRises asks, as plain mathematics.
-/
import Derived.Test.YtecijlgkadlmnaaHlcMath
namespace HlcMath
open StMath (St)
set_option linter.unusedVariables false
set_option linter.unusedSimpArgs false

/-- All that was told is at most Last, in Phys and Logic. -/
def Under (low : St) (c : Ck) : Prop := low.p < c.s.p ∨ (low.p = c.s.p ∧ low.l ≤ c.s.l)
/-- A clock of HlcRises. -/
structure Rise (c : Ck) (r m : Int) (j : Nat) : Prop where
  p0 : 0 ≤ c.s.p
  p1 : c.s.p ≤ 31 + j
  l0 : 0 ≤ c.s.l
  l1 : c.s.l ≤ 3
  rr : c.s.r = r
  mm : c.m = m
  dd : c.d = 1048576
theorem Rise.ok {c : Ck} {r m : Int} {j : Nat} (h : Rise c r m j) (hj : j ≤ 1000) (r0 : 0 ≤ r) (r1 : r < 64) (m0 : 0 ≤ m) (m1 : m ≤ 2) : Ok c :=
  ⟨h.p0, by have := h.p1; omega, h.l0, by have := h.l1; omega, by rw [h.rr]; exact r0, by rw [h.rr]; exact r1, by rw [h.mm]; exact m0, by rw [h.mm]; omega, by rw [h.dd]; decide, by rw [h.dd]; decide⟩
theorem rise_raise {c : Ck} {r m p l : Int} {j : Nat} (h : Rise c r m j) (p0 : 0 ≤ p) (p1 : p ≤ 31) (l0 : 0 ≤ l) (l1 : l ≤ 3) : Rise (raise c p l) r m (j + 1) := by
  obtain ⟨a, b, d, e, f, g, i⟩ := h
  unfold raise
  split
  · exact ⟨p0, by dsimp only; omega, l0, l1, f, g, i⟩
  · exact ⟨a, by omega, d, e, f, g, i⟩
theorem under_raise {c : Ck} {low : St} {p l q : Int} (h : Under low c) : Under (StMath.maxS [low, ⟨p, l, q⟩]) (raise c p l) := by
  show Under (StMath.up low ⟨p, l, q⟩) _
  unfold StMath.up Under raise at *
  split <;> split <;> rename_i h1 h2 <;> first | rw [StMath.less_iff] at h1 | skip
  all_goals dsimp only at *
  all_goals omega
theorem rise_witness {c : Ck} {r m n : Int} {s : St} {j : Nat} (h : Rise c r m j) (n0 : 0 ≤ n) (n1 : n ≤ 31) (hp : s.p = n) (l0 : 0 ≤ s.l) (l1 : s.l ≤ 3) (q0 : 0 ≤ s.r) (q1 : s.r < 64) :
    check c n s = 0 ∧ witness c n s = raise c n s.l := by
  have hc : check c n s = 0 := by
    unfold check
    rw [if_pos (by rw [isPhys_iff]; omega), if_pos (by rw [StMath.right_iff]; omega), if_neg (by rw [h.dd, hp]; omega)]
  exact ⟨hc, by unfold witness; rw [if_pos hc, hp]⟩
theorem rise_floor {c : Ck} {r m n : Int} {j : Nat} (h : Rise c r m j) (n0 : 0 ≤ n) (n1 : n ≤ 31) : floor c n = raise c n m := by
  unfold floor
  rw [held_id n0 (by omega), h.mm]
theorem rise_next {c : Ck} {r m n : Int} {j : Nat} {low : St} (h : Rise c r m j) (hu : Under low c) (hj : j ≤ 1000) (r0 : 0 ≤ r) (r1 : r < 64) (m0 : 0 ≤ m) (m1 : m ≤ 2) (n0 : 0 ≤ n) (n1 : n ≤ 31) :
    ∃ s : St, peek c n = (s, 0) ∧ next c n = ⟨s, m, 1048576⟩ ∧ Rise ⟨s, m, 1048576⟩ r m (j + 1) ∧ StMath.less low s = true ∧ n ≤ s.p ∧ s.r = r ∧ s.l ≤ m ∧ Under ⟨s.p, s.l, 63⟩ ⟨s, m, 1048576⟩ := by
  obtain ⟨⟨p, l, q⟩, m', d⟩ := c
  obtain ⟨a, b, e, f, g, hm, hd⟩ := h
  dsimp only at a b e f g hm hd
  subst g hm hd
  have hp : isPhys n = true := by rw [isPhys_iff]; omega
  have key : ∀ s : St, foll ⟨⟨p, l, q⟩, m', 1048576⟩ n = some s → s.r = q → s.l ≤ m' → 0 ≤ s.l → n ≤ s.p → s.p ≤ 31 + (j + 1) → (p < s.p ∨ (p = s.p ∧ l < s.l)) →
      ∃ s : St, peek ⟨⟨p, l, q⟩, m', 1048576⟩ n = (s, 0) ∧ next ⟨⟨p, l, q⟩, m', 1048576⟩ n = ⟨s, m', 1048576⟩ ∧ Rise ⟨s, m', 1048576⟩ q m' (j + 1) ∧ StMath.less low s = true ∧ n ≤ s.p ∧ s.r = q ∧ s.l ≤ m' ∧ Under ⟨s.p, s.l, 63⟩ ⟨s, m', 1048576⟩ := by
    intro s hf h1 h2 h3 h4 h5 h6
    have hpk : peek ⟨⟨p, l, q⟩, m', 1048576⟩ n = (s, 0) := by
      unfold peek
      rw [if_pos hp, hf]
      show lim n 1048576 s = _
      unfold lim
      rw [if_neg (by omega)]
    refine ⟨s, hpk, ?_, ⟨by show 0 ≤ s.p; omega, by show s.p ≤ _; omega, h3, by show s.l ≤ 3; omega, h1, rfl, rfl⟩, ?_, h4, h1, h2, ?_⟩
    · unfold next; rw [hpk, if_pos rfl]
    · rw [StMath.less_iff]
      unfold Under at hu
      dsimp only at hu
      omega
    · unfold Under; dsimp only; omega
  unfold foll at key
  dsimp only at key
  by_cases h1 : p < n
  · rw [if_pos h1] at key
    exact key _ rfl rfl m0 (by dsimp only; omega) (by dsimp only; omega) (by dsimp only; omega) (by dsimp only; omega)
  · rw [if_neg h1] at key
    by_cases h2 : l < m'
    · rw [if_pos h2] at key
      exact key _ rfl rfl (by dsimp only; omega) (by dsimp only; omega) (by dsimp only; omega) (by dsimp only; omega) (by dsimp only; omega)
    · rw [if_neg h2, if_pos (by omega)] at key
      exact key _ rfl rfl m0 (by dsimp only; omega) (by dsimp only; omega) (by dsimp only; omega) (by dsimp only; omega)
theorem rise_new {r m : Int} : Rise ⟨⟨0, 0, r⟩, m, 1048576⟩ r m 0 := ⟨by dsimp only; omega, by dsimp only; omega, by dsimp only; omega, by dsimp only; omega, rfl, rfl, rfl⟩
theorem under_new {r m : Int} : Under ⟨-1, 0, 0⟩ ⟨⟨0, 0, r⟩, m, 1048576⟩ := by left; dsimp only; omega
end HlcMath
