/-
  Plain mathematics of a number's lowest bytes, the highest of them first.
-/
import Derived.Test.YtnkjfenibgiaaaaMath
namespace NumMath

/-- The m lowest bytes of v, the highest of them first. -/
def fixL : Nat → Int → List Int
  | 0, _ => []
  | m + 1, v => fixL m (v / 256) ++ [v % 256]

theorem ediv256 (v k : Int) : v / 256 / k = v / (256 * k) := by rw [Int.ediv_ediv]; simp

theorem fixL_len (m : Nat) : ∀ v, (fixL m v).length = m := by
  induction m with
  | zero => intro v; rfl
  | succ m ih => intro v; simp [fixL, ih]

theorem fixL_head (m : Nat) : ∀ v : Int, fixL (m + 1) v = (v / 256 ^ m % 256) :: fixL m v := by
  induction m with
  | zero => intro v; simp [fixL]
  | succ m ih =>
    intro v
    show fixL (m + 1) (v / 256) ++ [v % 256] = _ :: (fixL m (v / 256) ++ [v % 256])
    rw [ih (v / 256), List.cons_append, ediv256, Int.pow_succ, Int.mul_comm 256]

theorem fixL_byte (m : Nat) : ∀ v : Int, ∀ c ∈ fixL m v, 0 ≤ c ∧ c ≤ 255 := by
  induction m with
  | zero => intro v c hc; simp [fixL] at hc
  | succ m ih =>
    intro v c hc
    rw [fixL, List.mem_append] at hc
    rcases hc with hc | hc
    · exact ih _ c hc
    · simp at hc; omega

theorem big_fix (m : Nat) : ∀ v : Int, 0 ≤ v → bigL (fixL m v) = v % 256 ^ m := by
  induction m with
  | zero => intro v _; simp [fixL, bigL, Int.emod_one]
  | succ m ih =>
    intro v hv
    rw [fixL, bigL_snoc, ih (v / 256) (by omega), Int.pow_succ, Int.mul_comm (256 ^ m) 256]
    have hp : (0 : Int) < 256 ^ m := Int.pow_pos (by omega)
    have h1 := Int.mul_ediv_add_emod (v / 256) (256 ^ m)
    have h2 := Int.mul_ediv_add_emod v 256
    have h3 := Int.mul_ediv_add_emod v (256 * 256 ^ m)
    rw [← ediv256] at h3
    have h4 : 256 * 256 ^ m * (v / 256 / 256 ^ m) = 256 * (256 ^ m * (v / 256 / 256 ^ m)) := by rw [Int.mul_assoc]
    omega

/-- The bytes of a list are the lowest ones of its number. -/
theorem fix_big (l : List Int) (h : ∀ c ∈ l, 0 ≤ c ∧ c ≤ 255) : ∀ v : Int, fixL l.length (l.foldl (fun v c => v * 256 + c) v) = l := by
  suffices H : ∀ (n : Nat) (l : List Int), l.length = n → (∀ c ∈ l, 0 ≤ c ∧ c ≤ 255) → ∀ v : Int, fixL n (l.foldl (fun v c => v * 256 + c) v) = l from fun v => H _ l rfl h v
  intro n
  induction n with
  | zero => intro l hl _ v; rw [List.eq_nil_of_length_eq_zero hl]; rfl
  | succ n ih =>
    intro l hl hb v
    have hne : l ≠ [] := by intro e; rw [e] at hl; simp at hl
    have hd := List.dropLast_concat_getLast hne
    have hc := hb _ (List.getLast_mem hne)
    rw [← hd, List.foldl_append, List.foldl_cons, List.foldl_nil, fixL]
    have e1 : ∀ X : Int, (X * 256 + l.getLast hne) / 256 = X := by intro X; omega
    have e2 : ∀ X : Int, (X * 256 + l.getLast hne) % 256 = l.getLast hne := by intro X; omega
    rw [e1, e2, ih l.dropLast (by simp; omega) (fun c hc => hb c (List.dropLast_subset l hc)) v]

theorem fix_bigL (l : List Int) (h : ∀ c ∈ l, 0 ≤ c ∧ c ≤ 255) : fixL l.length (bigL l) = l := fix_big l h 0

end NumMath
