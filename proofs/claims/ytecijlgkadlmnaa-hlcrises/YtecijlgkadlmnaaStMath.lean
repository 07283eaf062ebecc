/-
  Stamps as plain mathematics: which are right, their order, their bytes, what bytes say, the greatest of some.
-/
import Derived.Test.YtecijlgkadlmnaaMathG
namespace StMath
open NumMath
set_option linter.unusedVariables false
set_option linter.unusedSimpArgs false

structure St where
  p : Int
  l : Int
  r : Int

theorem St.eq_iff {a b : St} : a = b ↔ a.p = b.p ∧ a.l = b.l ∧ a.r = b.r := by cases a; cases b; simp
def zero : St := ⟨0, 0, 0⟩
/-- Each field is a number of 64 bits. -/
def Fit (s : St) : Prop := (-9223372036854775808 ≤ s.p ∧ s.p ≤ 9223372036854775807) ∧ (-9223372036854775808 ≤ s.l ∧ s.l ≤ 9223372036854775807) ∧ (-9223372036854775808 ≤ s.r ∧ s.r ≤ 9223372036854775807)
theorem fit_zero : Fit zero := by unfold Fit zero; decide
def right (s : St) : Bool := decide (0 ≤ s.p ∧ s.p ≤ 281474976710655 ∧ 0 ≤ s.l ∧ s.l ≤ 65535 ∧ 0 ≤ s.r ∧ s.r < 64)
theorem right_iff {s : St} : right s = true ↔ 0 ≤ s.p ∧ s.p ≤ 281474976710655 ∧ 0 ≤ s.l ∧ s.l ≤ 65535 ∧ 0 ≤ s.r ∧ s.r < 64 := by simp [right]
def cmpI (x y : Int) : Int := if x < y then -1 else if y < x then 1 else 0
def or3 (x y z : Int) : Int := if x = 0 then (if y = 0 then z else y) else x
def less (a b : St) : Bool := decide (a.p < b.p ∨ (a.p = b.p ∧ (a.l < b.l ∨ (a.l = b.l ∧ a.r < b.r))))
theorem less_iff {a b : St} : less a b = true ↔ (a.p < b.p ∨ (a.p = b.p ∧ (a.l < b.l ∨ (a.l = b.l ∧ a.r < b.r)))) := by simp [less]
theorem less_no {a b : St} : less a b = false ↔ ¬ (a.p < b.p ∨ (a.p = b.p ∧ (a.l < b.l ∨ (a.l = b.l ∧ a.r < b.r)))) := by
  rw [← less_iff]; simp
theorem less_or3 (a b : St) : decide (or3 (cmpI a.p b.p) (cmpI a.l b.l) (cmpI a.r b.r) < 0) = less a b := by
  unfold less or3 cmpI
  congr 1
  apply propext
  repeat' split
  all_goals omega
theorem cmpI_bd (x y : Int) : -1 ≤ cmpI x y ∧ cmpI x y ≤ 1 := by unfold cmpI; repeat' split <;> omega
theorem or3_bd (x y z : Int) (hx : -1 ≤ x ∧ x ≤ 1) (hy : -1 ≤ y ∧ y ≤ 1) (hz : -1 ≤ z ∧ z ≤ 1) : -1 ≤ or3 x y z ∧ or3 x y z ≤ 1 := by unfold or3; repeat' split <;> omega

def bytes (s : St) : List Int := if right s = true then fixL 6 s.p ++ (fixL 2 s.l ++ fixL 1 s.r) else []
theorem bytes_byte (s : St) : ∀ c ∈ bytes s, 0 ≤ c ∧ c ≤ 255 := by
  intro c hc
  unfold bytes at hc
  split at hc
  · rcases List.mem_append.1 hc with h | h
    · exact fixL_byte _ _ _ h
    · rcases List.mem_append.1 h with h | h <;> exact fixL_byte _ _ _ h
  · cases hc
theorem bytes_len {s : St} (h : right s = true) : (bytes s).length = 9 := by simp [bytes, h, fixL_len]
theorem bytes_no {s : St} (h : right s = false) : bytes s = [] := by simp [bytes, h]
def read (zs : List Int) : St × Int :=
  if zs.length < 9 then (zero, 20) else if 9 < zs.length then (zero, 21) else if (64 : Int) ≤ zs[8]?.getD 0 then (zero, 21)
  else (⟨bigL (zs.take 6), bigL ((zs.drop 6).take 2), zs[8]?.getD 0⟩, 0)

theorem big_one (c : Int) : bigL [c] = c := by simp [bigL]
theorem big6 {v : Int} (h0 : 0 ≤ v) (h1 : v ≤ 281474976710655) : bigL (fixL 6 v) = v := by
  rw [big_fix 6 v h0, show (256 : Int) ^ 6 = 281474976710656 by decide]; omega
theorem big2 {v : Int} (h0 : 0 ≤ v) (h1 : v ≤ 65535) : bigL (fixL 2 v) = v := by
  rw [big_fix 2 v h0, show (256 : Int) ^ 2 = 65536 by decide]; omega
theorem fix1 {v : Int} (h0 : 0 ≤ v) (h1 : v ≤ 255) : fixL 1 v = [v] := by
  rw [fixL_head]; simp [fixL]; omega
theorem read_bytes {s : St} (h : right s = true) : read (bytes s) = (s, 0) := by
  have hl := bytes_len h
  obtain ⟨a0, a1, b0, b1, c0, c1⟩ := right_iff.1 h
  unfold read
  rw [hl, if_neg (by omega), if_neg (by omega)]
  have hb : bytes s = fixL 6 s.p ++ (fixL 2 s.l ++ [s.r]) := by rw [bytes, if_pos h, fix1 c0 (by omega)]
  have l6 := fixL_len 6 s.p
  have l2 := fixL_len 2 s.l
  have e8 : (bytes s)[8]? = some s.r := by
    rw [hb, List.getElem?_append_right (by omega), List.getElem?_append_right (by omega), l6, l2]; rfl
  have t6 : (bytes s).take 6 = fixL 6 s.p := by rw [hb, List.take_append_of_le_length (by omega), List.take_of_length_le (by omega)]
  have d6 : ((bytes s).drop 6).take 2 = fixL 2 s.l := by
    rw [hb, List.drop_append_of_le_length (by omega), List.drop_of_length_le (by omega), List.nil_append, List.take_append_of_le_length (by omega), List.take_of_length_le (by omega)]
  rw [e8, t6, d6, big6 a0 a1, big2 b0 b1]
  simp only [Option.getD_some]
  rw [if_neg (by omega)]
theorem nine {zs : List Int} (h : zs.length = 9) : zs = zs.take 6 ++ ((zs.drop 6).take 2 ++ [zs[8]?.getD 0]) := by
  have h1 : zs.drop 8 = [zs[8]?.getD 0] := by
    rw [List.drop_eq_getElem_cons (by omega), List.drop_of_length_le (by omega)]
    simp [h]
  have h2 : (zs.drop 6).take 2 ++ zs.drop 8 = zs.drop 6 := by
    have := List.take_append_drop 2 (zs.drop 6)
    rw [List.drop_drop] at this
    exact this
  rw [← h1, h2, List.take_append_drop]
theorem read_ok {zs : List Int} (hb : ∀ c ∈ zs, 0 ≤ c ∧ c ≤ 255) (h : (read zs).2 = 0) : right (read zs).1 = true ∧ bytes (read zs).1 = zs := by
  unfold read at *
  split at h
  · simp at h
  rename_i h1
  split at h
  · simp at h
  rename_i h2
  split at h
  · simp at h
  rename_i h3
  rw [if_neg h1, if_neg h2, if_neg h3]
  have hl : zs.length = 9 := by omega
  have hc := hb _ (mem_getD zs 8 (by omega))
  have b6 := bigL_bd (zs.take 6) (fun c hc => hb c (List.mem_of_mem_take hc))
  have b2 := bigL_bd ((zs.drop 6).take 2) (fun c hc => hb c (List.mem_of_mem_drop (List.mem_of_mem_take hc)))
  have l6 : (zs.take 6).length = 6 := by simp; omega
  have l2 : ((zs.drop 6).take 2).length = 2 := by simp; omega
  rw [l6, show (256 : Int) ^ 6 = 281474976710656 by decide] at b6
  rw [l2, show (256 : Int) ^ 2 = 65536 by decide] at b2
  have hr : right ⟨bigL (zs.take 6), bigL ((zs.drop 6).take 2), zs[8]?.getD 0⟩ = true := by
    rw [right_iff]
    refine ⟨?_, ?_, ?_, ?_, ?_, ?_⟩ <;> simp only <;> omega
  refine ⟨hr, ?_⟩
  rw [bytes, if_pos hr]
  simp only
  have f6 := fix_bigL (zs.take 6) (fun c hc => hb c (List.mem_of_mem_take hc))
  have f2 := fix_bigL ((zs.drop 6).take 2) (fun c hc => hb c (List.mem_of_mem_drop (List.mem_of_mem_take hc)))
  rw [l6] at f6
  rw [l2] at f2
  rw [f6, f2, fix1 hc.1 hc.2]
  exact (nine hl).symm
/-- The last field, as the number of the last byte. -/
theorem big_last {zs : List Int} (h : zs.length = 9) : bigL ((zs.drop 8).take 8) = zs[8]?.getD 0 := by
  have h1 : zs.drop 8 = [zs[8]?.getD 0] := by
    rw [List.drop_eq_getElem_cons (by omega), List.drop_of_length_le (by omega)]
    simp [h]
  rw [h1]; simp [bigL]

/-- Which of two lists stands ahead of the other. -/
def lexI : List Int → List Int → Bool
  | [], [] => false
  | [], _ :: _ => true
  | _ :: _, [] => false
  | x :: a, y :: b => if x < y then true else if y < x then false else lexI a b

theorem fold_ge (l : List Int) : ∀ v : Int, 0 ≤ v → (∀ c ∈ l, 0 ≤ c ∧ c ≤ 255) → v * 256 ^ l.length ≤ l.foldl (fun v c => v * 256 + c) v := by
  induction l with
  | nil => intro v h _; simp
  | cons x l ih =>
    intro v h hb
    have hx := hb x (by simp)
    have := ih (v * 256 + x) (by omega) (fun c hc => hb c (by simp [hc]))
    simp only [List.foldl_cons, List.length_cons]
    refine Int.le_trans ?_ this
    rw [Int.pow_succ, Int.mul_comm (256 ^ l.length) 256, ← Int.mul_assoc]
    apply Int.mul_le_mul_of_nonneg_right (by omega)
    exact Int.pow_nonneg (by omega)
theorem lex_fold : ∀ (a b : List Int) (v : Int), 0 ≤ v → a.length = b.length → (∀ c ∈ a, 0 ≤ c ∧ c ≤ 255) → (∀ c ∈ b, 0 ≤ c ∧ c ≤ 255) →
    lexI a b = decide (a.foldl (fun v c => v * 256 + c) v < b.foldl (fun v c => v * 256 + c) v)
  | [], [], v, _, _, _, _ => by simp [lexI]
  | [], _ :: _, _, _, h, _, _ => by simp at h
  | _ :: _, [], _, _, h, _, _ => by simp at h
  | x :: a, y :: b, v, hv, hl, ha, hb => by
    have hl' : a.length = b.length := by simpa using hl
    have hx := ha x (by simp)
    have hy := hb y (by simp)
    have ha' : ∀ c ∈ a, 0 ≤ c ∧ c ≤ 255 := fun c hc => ha c (by simp [hc])
    have hb' : ∀ c ∈ b, 0 ≤ c ∧ c ≤ 255 := fun c hc => hb c (by simp [hc])
    simp only [List.foldl_cons, lexI]
    by_cases h1 : x < y
    · rw [if_pos h1]
      have u := (foldl_bd a (v * 256 + x) (by omega) ha').2
      have g := fold_ge b (v * 256 + y) (by omega) hb'
      have m : (v * 256 + x + 1) * 256 ^ a.length ≤ (v * 256 + y) * 256 ^ b.length := by
        rw [hl']
        exact Int.mul_le_mul_of_nonneg_right (by omega) (Int.pow_nonneg (by omega))
      symm
      apply decide_eq_true
      exact Int.lt_of_lt_of_le u (Int.le_trans m g)
    · rw [if_neg h1]
      by_cases h2 : y < x
      · rw [if_pos h2]
        have u := (foldl_bd b (v * 256 + y) (by omega) hb').2
        have g := fold_ge a (v * 256 + x) (by omega) ha'
        have m : (v * 256 + y + 1) * 256 ^ b.length ≤ (v * 256 + x) * 256 ^ a.length := by
          rw [hl']
          exact Int.mul_le_mul_of_nonneg_right (by omega) (Int.pow_nonneg (by omega))
        symm
        apply decide_eq_false
        have := Int.lt_of_lt_of_le u (Int.le_trans m g)
        omega
      · rw [if_neg h2]
        obtain rfl : x = y := by omega
        exact lex_fold a b (v * 256 + x) (by omega) hl' ha' hb'
theorem fold_append (a b : List Int) : bigL (a ++ b) = b.foldl (fun v c => v * 256 + c) (bigL a) := by simp [bigL, List.foldl_append]
theorem foldl_shift (b : List Int) : ∀ v : Int, b.foldl (fun v c => v * 256 + c) v = v * 256 ^ b.length + bigL b := by
  induction b with
  | nil => intro v; simp [bigL]
  | cons x b ih =>
    intro v
    have e := ih (0 * 256 + x)
    simp only [bigL, List.foldl_cons, List.length_cons] at *
    rw [ih, e, Int.pow_succ]
    generalize (256 : Int) ^ b.length = t
    rw [Int.add_mul, Int.zero_mul, Int.zero_add, ← Int.add_assoc, Int.mul_assoc v 256 t, Int.mul_comm 256 t]
theorem big_bytes {s : St} (h : right s = true) : bigL (bytes s) = s.p * 16777216 + s.l * 256 + s.r := by
  obtain ⟨a0, a1, b0, b1, c0, c1⟩ := right_iff.1 h
  rw [bytes, if_pos h, fix1 c0 (by omega), fold_append, foldl_shift, fold_append, foldl_shift, big6 a0 a1, big2 b0 b1]
  simp only [List.length_append, fixL_len, List.length_singleton, big_one]
  rw [show (256 : Int) ^ (2 + 1) = 16777216 by decide, show (256 : Int) ^ 1 = 256 by decide]
  omega
/-- Stamps stand in the order of their bytes. -/
theorem lex_bytes {a b : St} (ha : right a = true) (hb : right b = true) : lexI (bytes a) (bytes b) = less a b := by
  have hl : (bytes a).length = (bytes b).length := by rw [bytes_len ha, bytes_len hb]
  rw [lex_fold (bytes a) (bytes b) 0 (by omega) hl (bytes_byte a) (bytes_byte b)]
  have ea := big_bytes ha
  have eb := big_bytes hb
  unfold bigL at ea eb
  rw [ea, eb]
  unfold less
  congr 1
  apply propext
  obtain ⟨a0, a1, a2, a3, a4, a5⟩ := right_iff.1 ha
  obtain ⟨b0, b1, b2, b3, b4, b5⟩ := right_iff.1 hb
  omega
theorem bytes_inj {a b : St} (ha : right a = true) (hb : right b = true) : bytes a = bytes b ↔ a = b := by
  constructor
  · intro h
    have h1 := read_bytes ha
    have h2 := read_bytes hb
    rw [h, h2] at h1
    exact (Prod.mk.inj h1).1.symm
  · intro h; rw [h]

def up (g s : St) : St := if less g s = true then s else g
def maxS : List St → St
  | [] => zero
  | x :: l => l.foldl up x
theorem less_trans {a b c : St} (h1 : less a b = true) (h2 : less b c = true) : less a c = true := by
  rw [less_iff] at *; omega
theorem less_irr (a : St) : less a a = false := by rw [less_no]; omega
theorem less_asym {a b : St} (h : less a b = true) : less b a = false := by rw [less_iff] at h; rw [less_no]; omega
theorem less_tri {a b : St} (h1 : less a b = false) (h2 : less b a = false) : a = b := by
  rw [less_no] at *; rw [St.eq_iff]; omega
theorem nless_trans {a b c : St} (h1 : less b a = false) (h2 : less c b = false) : less c a = false := by
  rw [less_no] at *; omega
theorem up_ge (g s : St) : less (up g s) g = false ∧ less (up g s) s = false := by
  unfold up
  by_cases h : less g s = true
  · rw [if_pos h]; exact ⟨less_asym h, less_irr s⟩
  · rw [if_neg h]; exact ⟨less_irr g, by simpa using h⟩
theorem fold_up (l : List St) : ∀ g, less (l.foldl up g) g = false ∧ (∀ s ∈ l, less (l.foldl up g) s = false) ∧ (l.foldl up g = g ∨ l.foldl up g ∈ l) := by
  induction l with
  | nil => intro g; exact ⟨less_irr g, by simp, .inl rfl⟩
  | cons x l ih =>
    intro g
    obtain ⟨h1, h2, h3⟩ := ih (up g x)
    obtain ⟨u1, u2⟩ := up_ge g x
    simp only [List.foldl_cons]
    refine ⟨nless_trans u1 h1, ?_, ?_⟩
    · intro s hs
      rcases List.mem_cons.1 hs with rfl | hs
      · exact nless_trans u2 h1
      · exact h2 s hs
    · rcases h3 with h3 | h3
      · rw [h3]
        unfold up
        split
        · right; simp
        · left; rfl
      · right; simp [h3]
theorem max_top (l : List St) : (∀ s ∈ l, less (maxS l) s = false) ∧ (l ≠ [] → maxS l ∈ l) := by
  cases l with
  | nil => simp
  | cons x l =>
    obtain ⟨h1, h2, h3⟩ := fold_up l x
    refine ⟨?_, fun _ => ?_⟩
    · intro s hs
      rcases List.mem_cons.1 hs with rfl | hs
      · exact h1
      · exact h2 s hs
    · show l.foldl up x ∈ x :: l
      rcases h3 with h3 | h3
      · rw [h3]; simp
      · simp [h3]
theorem fold_take (l : List St) (g : St) (k : Nat) (h : k < l.length) : (l.take (k + 1)).foldl up g = up ((l.take k).foldl up g) (l[k]?.getD zero) := by
  rw [List.take_succ_eq_append_getElem h, List.foldl_append]
  simp [h]
end StMath
