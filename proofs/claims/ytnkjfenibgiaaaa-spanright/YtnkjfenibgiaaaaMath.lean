/-
  Plain mathematics of numbers as bytes: the digits of seven bits of a number, lowest first, and what is read of bytes. Nothing of the program is named here.
-/
namespace NumMath

/-- The digits of v, with fuel: 128 is added to each but the last one. -/
def digs : Nat → Int → List Int
  | 0, v => [v]
  | f + 1, v => if v < 128 then [v] else (v % 128 + 128) :: digs f (v / 128)

/-- The bytes of a number of 64 bits. -/
def D (v : Int) : List Int := digs 9 v

theorem digs_succ (f : Nat) (v : Int) : digs (f + 1) v = if v < 128 then [v] else (v % 128 + 128) :: digs f (v / 128) := rfl

theorem digs_more (f : Nat) : ∀ v : Int, 0 ≤ v → v < 128 ^ (f + 1) → digs (f + 1) v = digs f v := by
  induction f with
  | zero => intro v h0 h; simp at h; simp [digs, h]
  | succ f ih =>
    intro v h0 h
    by_cases hv : v < 128
    · simp [digs, hv]
    · rw [digs_succ (f + 1) v, if_neg hv, digs_succ f v, if_neg hv]
      congr 1
      apply ih
      · omega
      · rw [Int.pow_succ] at h
        exact Int.ediv_lt_of_lt_mul (by omega) h

theorem D_small {v : Int} (h : v < 128) : D v = [v] := by simp [D, digs, h]

theorem D_step {v : Int} (h0 : 0 ≤ v) (h1 : v ≤ 18446744073709551615) (h : ¬ v < 128) : D v = (v % 128 + 128) :: D (v / 128) := by
  show digs (8 + 1) v = _
  rw [digs, if_neg h]
  congr 1
  symm
  apply digs_more 8
  · omega
  · have : (128 : Int) ^ (8 + 1) = 9223372036854775808 := by decide
    rw [this]; omega

theorem digs_len (f : Nat) : ∀ v : Int, 1 ≤ (digs f v).length ∧ (digs f v).length ≤ f + 1 := by
  induction f with
  | zero => intro v; simp [digs]
  | succ f ih =>
    intro v
    unfold digs
    split
    · simp
    · have := ih (v / 128); simp; omega

theorem D_len (v : Int) : 1 ≤ (D v).length ∧ (D v).length ≤ 10 := digs_len 9 v

theorem digs_byte (f : Nat) : ∀ v : Int, 0 ≤ v → v < 128 ^ (f + 1) → ∀ c ∈ digs f v, 0 ≤ c ∧ c ≤ 255 := by
  induction f with
  | zero => intro v h0 h c hc; simp at h; simp [digs] at hc; omega
  | succ f ih =>
    intro v h0 h c hc
    unfold digs at hc
    split at hc
    · simp at hc; omega
    · rcases List.mem_cons.1 hc with rfl | hc
      · omega
      · refine ih (v / 128) (by omega) ?_ c hc
        rw [Int.pow_succ] at h
        exact Int.ediv_lt_of_lt_mul (by omega) h

theorem D_byte {v : Int} (h0 : 0 ≤ v) (h1 : v ≤ 18446744073709551615) : ∀ c ∈ D v, 0 ≤ c ∧ c ≤ 255 := by
  apply digs_byte 9 v h0
  have : (128 : Int) ^ (9 + 1) = 1180591620717411303424 := by decide
  rw [this]; omega

/-- The number of some bytes, the highest first. -/
def bigL (l : List Int) : Int := l.foldl (fun v c => v * 256 + c) 0

theorem bigL_snoc (l : List Int) (c : Int) : bigL (l ++ [c]) = bigL l * 256 + c := by simp [bigL, List.foldl_append]

theorem foldl_bd (l : List Int) : ∀ v : Int, 0 ≤ v → (∀ c ∈ l, 0 ≤ c ∧ c ≤ 255) → 0 ≤ l.foldl (fun v c => v * 256 + c) v ∧ l.foldl (fun v c => v * 256 + c) v < (v + 1) * 256 ^ l.length := by
  induction l with
  | nil => intro v h _; simp; omega
  | cons x l ih =>
    intro v h hb
    have hx := hb x (by simp)
    have := ih (v * 256 + x) (by omega) (fun c hc => hb c (by simp [hc]))
    simp only [List.foldl_cons, List.length_cons]
    refine ⟨this.1, Int.lt_of_lt_of_le this.2 ?_⟩
    rw [Int.pow_succ, Int.mul_comm (256 ^ l.length) 256, ← Int.mul_assoc]
    apply Int.mul_le_mul_of_nonneg_right (by omega)
    exact Int.pow_nonneg (by omega)

theorem bigL_bd (l : List Int) (h : ∀ c ∈ l, 0 ≤ c ∧ c ≤ 255) : 0 ≤ bigL l ∧ bigL l < 256 ^ l.length := by
  have := foldl_bd l 0 (by omega) h
  simpa [bigL] using this

theorem pow_mono256 {a b : Nat} (h : a ≤ b) : (256 : Int) ^ a ≤ 256 ^ b := by
  have := Nat.pow_le_pow_right (show 0 < 256 by omega) h
  have h2 : ((256 : Nat) : Int) ^ a ≤ ((256 : Nat) : Int) ^ b := by
    rw [← Int.natCast_pow, ← Int.natCast_pow]; exact Int.ofNat_le.2 this
  exact h2

theorem bigL_take {l : List Int} (h : ∀ c ∈ l, 0 ≤ c ∧ c ≤ 255) (k j : Nat) (hk : k ≤ j) : 0 ≤ bigL (l.take k) ∧ bigL (l.take k) < 256 ^ j := by
  have h1 := bigL_bd (l.take k) (fun c hc => h c (List.mem_of_mem_take hc))
  have h2 : (l.take k).length ≤ j := by simp; omega
  exact ⟨h1.1, Int.lt_of_lt_of_le h1.2 (pow_mono256 h2)⟩

theorem take_snoc (l : List Int) (k : Nat) (h : k < l.length) : l.take (k + 1) = l.take k ++ [l[k]?.getD 0] := by
  rw [List.take_succ_eq_append_getElem h]
  simp [h]

theorem mem_getD (l : List Int) (k : Nat) (h : k < l.length) : l[k]?.getD 0 ∈ l := by
  simp [h]

/-- May c be the last byte of a number, at place i? -/
def fits (c : Int) (i : Nat) : Bool := if c = 0 then i == 0 else decide (i < 9) || decide (c ≤ 1)

/-- The number of some digits, the lowest first. -/
def lowL : List Int → Int
  | [] => 0
  | c :: l => c % 128 + 128 * lowL l

/-- How many bytes, of the first f, stand ahead of the first one below 128. -/
def lead : Nat → List Int → Nat
  | 0, _ => 0
  | _ + 1, [] => 0
  | f + 1, c :: l => if 128 ≤ c then lead f l + 1 else 0

/-- What is read at the beginning of some bytes: the number, how many bytes it has, the error. -/
def tak (zs : List Int) : Int × Int × Int :=
  if lead 10 zs = 10 then (0, 0, 21) else if lead 10 zs = zs.length then (0, 0, 20)
  else if fits (zs[lead 10 zs]?.getD 0) (lead 10 zs) = true then (lowL (zs.take (lead 10 zs + 1)), (lead 10 zs : Int) + 1, 0) else (0, 0, 21)

theorem lead_eq (f : Nat) : ∀ (zs : List Int) (k : Nat), (∀ j, j < k → 128 ≤ zs[j]?.getD 0) → k ≤ zs.length → k ≤ f → (k = f ∨ k = zs.length ∨ zs[k]?.getD 0 < 128) → lead f zs = k := by
  induction f with
  | zero => intro zs k _ _ h _; simp [lead]; omega
  | succ f ih =>
    intro zs k h1 h2 h3 h4
    cases zs with
    | nil => simp at h2; simp [lead, h2]
    | cons c l =>
      cases k with
      | zero =>
        have : c < 128 := by
          rcases h4 with h | h | h
          · omega
          · simp at h
          · simpa using h
        simp [lead]; omega
      | succ k =>
        have hc : 128 ≤ c := by simpa using h1 0 (by omega)
        rw [lead, if_pos hc, ih l k (fun j hj => by simpa using h1 (j + 1) (by omega)) (by simpa using h2) (by omega) ?_]
        rcases h4 with h | h | h
        · left; omega
        · right; left; simpa using h
        · right; right; simpa using h

theorem tak_ten {zs : List Int} (h : ∀ j, j < 10 → 128 ≤ zs[j]?.getD 0) (hl : 10 ≤ zs.length) : tak zs = (0, 0, 21) := by
  have := lead_eq 10 zs 10 h hl (by omega) (.inl rfl)
  simp [tak, this]

theorem tak_short {zs : List Int} {k : Nat} (h : ∀ j, j < k → 128 ≤ zs[j]?.getD 0) (hl : k = zs.length) (hk : k < 10) : tak zs = (0, 0, 20) := by
  have := lead_eq 10 zs k h (by omega) (by omega) (.inr (.inl hl))
  have h10 : ¬ k = 10 := by omega
  rw [tak, this, if_neg h10, if_pos hl]

theorem tak_last {zs : List Int} {k : Nat} (h : ∀ j, j < k → 128 ≤ zs[j]?.getD 0) (hl : k < zs.length) (hk : k < 10) (hc : zs[k]?.getD 0 < 128) :
    tak zs = if fits (zs[k]?.getD 0) k = true then (lowL (zs.take (k + 1)), (k : Int) + 1, 0) else (0, 0, 21) := by
  have := lead_eq 10 zs k h (by omega) (by omega) (.inr (.inr hc))
  have h10 : ¬ k = 10 := by omega
  have hn : ¬ k = zs.length := by omega
  rw [tak, this, if_neg h10, if_neg hn]

theorem lowL_snoc (l : List Int) (c : Int) : lowL (l ++ [c]) = lowL l + c % 128 * 128 ^ l.length := by
  induction l with
  | nil => simp [lowL]
  | cons x l ih =>
    rw [List.cons_append, lowL, ih, lowL, List.length_cons, Int.pow_succ, Int.mul_add, Int.mul_comm (128 ^ l.length) 128, ← Int.mul_assoc (c % 128) 128, Int.mul_comm (c % 128) 128, Int.mul_assoc]
    omega

theorem lowL_bd (l : List Int) : 0 ≤ lowL l ∧ lowL l < 128 ^ l.length := by
  induction l with
  | nil => simp [lowL]
  | cons x l ih =>
    rw [lowL, List.length_cons, Int.pow_succ]
    omega

theorem lowL_drop (l : List Int) (i : Nat) : lowL (l.drop i) ≤ lowL l := by
  induction l generalizing i with
  | nil => simp
  | cons x l ih =>
    cases i with
    | zero => simp
    | succ i =>
      have h1 := ih i
      have h2 := lowL_bd l
      rw [List.drop_succ_cons, lowL]
      omega

theorem lowL_step (l : List Int) (i : Nat) (h : i < l.length) : lowL (l.drop i) = lowL (l.drop (i + 1)) * 128 + (l[i]?.getD 0) % 128 := by
  rw [List.drop_eq_getElem_cons h, lowL]
  simp [h]
  omega

/-- A number of fitting bytes fits 64 bits. -/
theorem lowL_fits {zs : List Int} {k : Nat} (hl : k < zs.length) (hk : k < 10) (hf : fits (zs[k]?.getD 0) k = true) (h0 : 0 ≤ zs[k]?.getD 0) : lowL (zs.take (k + 1)) ≤ 18446744073709551615 := by
  by_cases h9 : k < 9
  · have h := (lowL_bd (zs.take (k + 1))).2
    have h2 : (zs.take (k + 1)).length ≤ 9 := by simp; omega
    have h3 : (128 : Int) ^ (zs.take (k + 1)).length ≤ 128 ^ 9 := by
      have := Nat.pow_le_pow_right (show 0 < 128 by omega) h2
      have h4 : ((128 : Nat) : Int) ^ (zs.take (k + 1)).length ≤ ((128 : Nat) : Int) ^ 9 := by
        rw [← Int.natCast_pow, ← Int.natCast_pow]; exact Int.ofNat_le.2 this
      exact h4
    have h5 : (128 : Int) ^ 9 = 9223372036854775808 := by decide
    omega
  · obtain rfl : k = 9 := by omega
    rw [take_snoc zs 9 hl, lowL_snoc]
    have h := (lowL_bd (zs.take 9)).2
    have h2 : (zs.take 9).length = 9 := by simp; omega
    rw [h2] at h ⊢
    have h5 : (128 : Int) ^ 9 = 9223372036854775808 := by decide
    rw [h5] at h ⊢
    have : zs[9]?.getD 0 ≤ 1 := by
      unfold fits at hf
      split at hf
      · omega
      · simpa using hf
    omega

/-- The bytes of the first k numbers, behind those that are there. -/
def F (zs ls : List Int) (k : Nat) : List Int := zs ++ (ls.take k).flatMap D

theorem F_zero (zs ls : List Int) : F zs ls 0 = zs := by simp [F]
theorem F_all (zs ls : List Int) : F zs ls ls.length = zs ++ ls.flatMap D := by simp [F]
theorem F_succ (zs ls : List Int) (k : Nat) (h : k < ls.length) : F zs ls (k + 1) = F zs ls k ++ D (ls[k]?.getD 0) := by
  unfold F
  rw [take_snoc ls k h, List.flatMap_append]
  simp
theorem F_len_succ (zs ls : List Int) (k : Nat) (h : k < ls.length) : (F zs ls (k + 1)).length = (F zs ls k).length + (D (ls[k]?.getD 0)).length := by
  rw [F_succ zs ls k h]; simp
theorem F_mono (zs ls : List Int) {k j : Nat} (h : k ≤ j) : (F zs ls k).length ≤ (F zs ls j).length := by
  obtain ⟨d, rfl⟩ : ∃ d, j = k + d := ⟨j - k, by omega⟩
  induction d with
  | zero => simp
  | succ d ih =>
    refine Nat.le_trans (ih (by omega)) ?_
    by_cases hl : k + d < ls.length
    · rw [show k + (d + 1) = k + d + 1 by omega, F_len_succ zs ls _ hl]; omega
    · unfold F
      rw [List.take_of_length_le (by omega), List.take_of_length_le (by omega)]
      exact Nat.le_refl _
theorem F_le (zs ls : List Int) (k : Nat) : (F zs ls k).length ≤ zs.length + 10 * k := by
  induction k with
  | zero => simp [F]
  | succ k ih =>
    by_cases hl : k < ls.length
    · rw [F_len_succ zs ls k hl]
      have := D_len (ls[k]?.getD 0)
      omega
    · have h1 : F zs ls (k + 1) = F zs ls k := by
        unfold F
        rw [List.take_of_length_le (by omega), List.take_of_length_le (by omega)]
      rw [h1]; omega

theorem or128 (x : Nat) (h : x < 256) : x ||| 128 = x % 128 + 128 := by
  have : ∀ y : Fin 256, y.val ||| 128 = y.val % 128 + 128 := by decide +kernel
  exact this ⟨x, h⟩
theorem and127 (x : Nat) : x &&& 127 = x % 128 := Nat.and_two_pow_sub_one_eq_mod x 7

end NumMath
