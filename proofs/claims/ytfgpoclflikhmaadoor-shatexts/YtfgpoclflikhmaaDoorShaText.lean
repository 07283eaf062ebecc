/-
  Plain mathematics of a digest's text: hexadecimal digits, which texts are one, the order of digests and of their texts.
-/
set_option linter.unusedVariables false
namespace ShaMath

def hexd (d : Nat) : Nat := if d < 10 then 48 + d else 87 + d
def hexL : List Nat → List Nat
  | [] => []
  | c :: l => hexd (c / 16) :: hexd (c % 16) :: hexL l
theorem hexL_len : ∀ l, (hexL l).length = 2 * l.length
  | [] => rfl
  | c :: l => by simp [hexL, hexL_len l]; omega
theorem hexL_even : ∀ (l : List Nat) (i : Nat), i < l.length → (hexL l)[2 * i]?.getD 0 = hexd (l[i]?.getD 0 / 16)
  | c :: l, 0, _ => rfl
  | c :: l, i + 1, h => by
    have := hexL_even l i (by simpa using h)
    rw [show 2 * (i + 1) = (2 * i) + 1 + 1 by omega]
    simpa [hexL] using this
theorem hexL_odd : ∀ (l : List Nat) (i : Nat), i < l.length → (hexL l)[2 * i + 1]?.getD 0 = hexd (l[i]?.getD 0 % 16)
  | c :: l, 0, _ => rfl
  | c :: l, i + 1, h => by
    have := hexL_odd l i (by simpa using h)
    rw [show 2 * (i + 1) + 1 = (2 * i + 1) + 1 + 1 by omega]
    simpa [hexL] using this
theorem hexd_lt (d : Nat) (h : d < 16) : hexd d < 256 := by unfold hexd; split <;> omega
theorem hexL_lt : ∀ l : List Nat, (∀ c ∈ l, c < 256) → ∀ c ∈ hexL l, c < 256
  | [], _ => by simp [hexL]
  | x :: l, h => by
    intro c hc
    have hx := h x (by simp)
    simp only [hexL, List.mem_cons] at hc
    rcases hc with rfl | rfl | hc
    · exact hexd_lt _ (by omega)
    · exact hexd_lt _ (by omega)
    · exact hexL_lt l (fun y hy => h y (by simp [hy])) c hc

/-- A digit's value; 16: it is none. -/
def hexv (c : Nat) : Nat := if 48 ≤ c ∧ c ≤ 57 then c - 48 else if 97 ≤ c ∧ c ≤ 102 then c - 87 else 16
theorem hexv_le (c : Nat) : hexv c ≤ 16 := by unfold hexv; split <;> (try split) <;> omega
theorem hexd_hexv (c : Nat) (h : hexv c < 16) : hexd (hexv c) = c := by
  have hc : (48 ≤ c ∧ c ≤ 57) ∨ (97 ≤ c ∧ c ≤ 102) := by
    unfold hexv at h
    split at h
    · left; assumption
    · split at h
      · right; assumption
      · omega
  rcases hc with hc | hc
  · have e : hexv c = c - 48 := by unfold hexv; rw [if_pos hc]
    rw [e]; unfold hexd; rw [if_pos (by omega)]; omega
  · have e : hexv c = c - 87 := by unfold hexv; rw [if_neg (by omega), if_pos hc]
    rw [e]; unfold hexd; rw [if_neg (by omega)]; omega

def two (l : List Nat) : Nat := l.foldl (fun v c => v * 16 + c) 0
theorem two_snoc (l : List Nat) (c : Nat) : two (l ++ [c]) = two l * 16 + c := by simp [two, List.foldl_append]
def nib (b : List Nat) (i : Nat) : Nat := two ((b.drop (2 * i)).take 2)
/-- The bytes of the digits that have come so far. -/
def nibAt (b : List Nat) (k : Nat) : List Nat := (List.range 32).map (nib (b.take k))
theorem nibAt_len (b : List Nat) (k : Nat) : (nibAt b k).length = 32 := by simp [nibAt]
theorem nibAt_get (b : List Nat) (k j : Nat) (hj : j < 32) : (nibAt b k)[j]?.getD 0 = nib (b.take k) j := by simp [nibAt, hj]
theorem nib_part (b : List Nat) (k : Nat) (hk : k < b.length) (h : ∀ c ∈ b, c < 16) : nib (b.take k) (k / 2) < 16 := by
  unfold nib
  have h1 : (b.take k).length = k := by simp; omega
  have h2 : ((b.take k).drop (2 * (k / 2))).length = k % 2 := by rw [List.length_drop, h1]; omega
  rw [List.take_of_length_le (i := 2) (by omega)]
  have hm : ∀ c ∈ (b.take k).drop (2 * (k / 2)), c < 16 := fun c hc => h c (List.mem_of_mem_take (List.mem_of_mem_drop hc))
  match hl : (b.take k).drop (2 * (k / 2)), h2 with
  | [], _ => decide
  | [x], _ => have := hm x (by rw [hl]; simp); simpa [two] using this
  | x :: y :: l, h2 => simp at h2; omega
theorem nib_step (b : List Nat) (k : Nat) (hk : k < b.length) : nib (b.take (k + 1)) (k / 2) = nib (b.take k) (k / 2) * 16 + b[k]?.getD 0 := by
  unfold nib
  rw [← two_snoc, List.take_succ_eq_append_getElem hk]
  have h1 : (b.take k).length = k := by simp; omega
  have h2 : ((b.take k).drop (2 * (k / 2))).length ≤ 1 := by rw [List.length_drop, h1]; omega
  rw [List.drop_append_of_le_length (by omega), List.take_of_length_le (i := 2) (by rw [List.length_append]; simp only [List.length_singleton]; omega), List.take_of_length_le (i := 2) (by omega), show b[k]?.getD 0 = b[k] by simp [hk]]
theorem nib_other (b : List Nat) (k j : Nat) (hk : k < b.length) (hj : j ≠ k / 2) : nib (b.take (k + 1)) j = nib (b.take k) j := by
  unfold nib
  rw [List.take_succ_eq_append_getElem hk]
  have h1 : (b.take k).length = k := by simp; omega
  by_cases hlt : j < k / 2
  · rw [List.drop_append_of_le_length (by omega), List.take_append_of_le_length (by simp; omega)]
  · rw [List.drop_eq_nil_of_le (by simp; omega), List.drop_eq_nil_of_le (by simp; omega)]
theorem nibAt_step (b : List Nat) (k : Nat) (hk : k < b.length) : nibAt b (k + 1) = (nibAt b k).set (k / 2) (nib (b.take k) (k / 2) * 16 + b[k]?.getD 0) := by
  apply List.ext_getElem
  · simp [nibAt]
  · intro i h1 h2
    rw [List.getElem_set]
    by_cases e : k / 2 = i
    · rw [if_pos e, ← nib_step b k hk]
      simp only [nibAt, List.getElem_map, List.getElem_range, e]
    · rw [if_neg e]
      simp only [nibAt, List.getElem_map, List.getElem_range]
      exact nib_other b k i hk (fun h => e h.symm)
theorem nibAt_zero (b : List Nat) : nibAt b 0 = List.replicate 32 0 := by
  apply List.ext_getElem
  · simp [nibAt]
  · intro i h1 h2
    rw [List.getElem_replicate]
    simp [nibAt, nib, two]

/-- What a text tells. -/
def okHex (l : List Nat) : Bool := decide (l.length = 64) && l.all (fun c => decide (hexv c < 16))
def parseX (l : List Nat) : List Nat := if okHex l = true then nibAt (l.map hexv) 64 else List.replicate 32 0
theorem nib_val (b : List Nat) (j : Nat) (h : 2 * j + 1 < b.length) : nib b j = b[2 * j]?.getD 0 * 16 + b[2 * j + 1]?.getD 0 := by
  unfold nib
  rw [List.drop_eq_getElem_cons (by omega : 2 * j < b.length), List.drop_eq_getElem_cons (by omega : 2 * j + 1 < b.length), show b[2 * j]?.getD 0 = b[2 * j] by simp [(by omega : 2 * j < b.length)], show b[2 * j + 1]?.getD 0 = b[2 * j + 1] by simp [h]]
  show (0 * 16 + b[2 * j]) * 16 + b[2 * j + 1] = _
  omega
theorem nibAt_lt (b : List Nat) (hl : b.length = 64) (h : ∀ c ∈ b, c < 16) : ∀ c ∈ nibAt b 64, c < 256 := by
  intro c hc
  obtain ⟨j, hj, rfl⟩ := List.mem_map.1 hc
  have hj' : j < 32 := List.mem_range.1 hj
  rw [List.take_of_length_le (by omega), nib_val b j (by omega)]
  have h1 := h b[2 * j] (List.getElem_mem (by omega))
  have h2 := h b[2 * j + 1] (List.getElem_mem (by omega))
  simp [(by omega : 2 * j < b.length), (by omega : 2 * j + 1 < b.length)]
  omega
theorem parseX_lt (l : List Nat) : ∀ c ∈ parseX l, c < 256 := by
  unfold parseX
  split
  · rename_i h
    simp only [okHex, Bool.and_eq_true, decide_eq_true_eq, List.all_eq_true] at h
    refine nibAt_lt _ (by simpa using h.1) ?_
    intro c hc
    obtain ⟨x, hx, rfl⟩ := List.mem_map.1 hc
    exact h.2 x hx
  · intro c hc; have := List.eq_of_mem_replicate hc; omega
theorem parseX_len (l : List Nat) : (parseX l).length = 32 := by
  unfold parseX; split
  · exact nibAt_len _ _
  · simp
/-- The text of what a text tells is the text. -/
theorem hex_parse (l : List Nat) (h : okHex l = true) : hexL (parseX l) = l := by
  have hp : parseX l = nibAt (l.map hexv) 64 := by unfold parseX; rw [if_pos h]
  simp only [okHex, Bool.and_eq_true, decide_eq_true_eq, List.all_eq_true] at h
  obtain ⟨hl, hv⟩ := h
  rw [hp]
  have hml : (l.map hexv).length = 64 := by simpa using hl
  have hget : ∀ j, j < 32 → (nibAt (l.map hexv) 64)[j]?.getD 0 = hexv (l[2 * j]?.getD 0) * 16 + hexv (l[2 * j + 1]?.getD 0) := by
    intro j hj
    rw [nibAt_get _ _ _ hj, List.take_of_length_le (by omega), nib_val _ _ (by omega)]
    simp [(by omega : 2 * j < l.length), (by omega : 2 * j + 1 < l.length)]
  apply List.ext_getElem
  · rw [hexL_len, nibAt_len, hl]
  · intro i h1 h2
    have hi : i < 64 := by omega
    have e : ∀ (m : List Nat) (h : i < m.length), m[i] = m[i]?.getD 0 := fun m h => by simp [h]
    rw [e _ h1, e _ h2]
    have hv1 := hv l[2 * (i / 2)] (List.getElem_mem (by omega))
    have g1 : l[2 * (i / 2)]?.getD 0 = l[2 * (i / 2)] := by simp [(by omega : 2 * (i / 2) < l.length)]
    have hv2 := hv l[2 * (i / 2) + 1] (List.getElem_mem (by omega))
    have g2 : l[2 * (i / 2) + 1]?.getD 0 = l[2 * (i / 2) + 1] := by simp [(by omega : 2 * (i / 2) + 1 < l.length)]
    rw [← g1] at hv1
    rw [← g2] at hv2
    rcases (by omega : i = 2 * (i / 2) ∨ i = 2 * (i / 2) + 1) with hi2 | hi2
    · have := hexL_even (nibAt (l.map hexv) 64) (i / 2) (by rw [nibAt_len]; omega)
      rw [hget _ (by omega)] at this
      rw [show (hexL (nibAt (l.map hexv) 64))[i]? = (hexL (nibAt (l.map hexv) 64))[2 * (i / 2)]? by rw [← hi2], this, show l[i]? = l[2 * (i / 2)]? by rw [← hi2]]
      rw [show (hexv (l[2 * (i / 2)]?.getD 0) * 16 + hexv (l[2 * (i / 2) + 1]?.getD 0)) / 16 = hexv (l[2 * (i / 2)]?.getD 0) by omega]
      exact hexd_hexv _ hv1
    · have := hexL_odd (nibAt (l.map hexv) 64) (i / 2) (by rw [nibAt_len]; omega)
      rw [hget _ (by omega)] at this
      rw [show (hexL (nibAt (l.map hexv) 64))[i]? = (hexL (nibAt (l.map hexv) 64))[2 * (i / 2) + 1]? by rw [← hi2], this, show l[i]? = l[2 * (i / 2) + 1]? by rw [← hi2]]
      rw [show (hexv (l[2 * (i / 2)]?.getD 0) * 16 + hexv (l[2 * (i / 2) + 1]?.getD 0)) % 16 = hexv (l[2 * (i / 2) + 1]?.getD 0) by omega]
      exact hexd_hexv _ hv2

/-- Byte by byte from the first on. -/
def lexLt : List Nat → List Nat → Bool
  | [], [] => false
  | [], _ :: _ => true
  | _ :: _, [] => false
  | a :: as, b :: bs => if a < b then true else if b < a then false else lexLt as bs
theorem lex_trans : ∀ a b c : List Nat, lexLt a b = true → lexLt b c = true → lexLt a c = true
  | [], [], _, h, _ => by simp [lexLt] at h
  | [], _ :: _, [], _, h => by simp [lexLt] at h
  | [], _ :: _, _ :: _, _, _ => rfl
  | _ :: _, [], _, h, _ => by simp [lexLt] at h
  | _ :: _, _ :: _, [], _, h => by simp [lexLt] at h
  | x :: a, y :: b, z :: c, h1, h2 => by
    unfold lexLt at h1 h2 ⊢
    by_cases hxy : x < y
    · by_cases hyz : y < z
      · rw [if_pos (by omega)]
      · rw [if_neg hyz] at h2
        by_cases hzy : z < y
        · simp [hzy] at h2
        · rw [if_pos (by omega)]
    · rw [if_neg hxy] at h1
      by_cases hyx : y < x
      · simp [hyx] at h1
      · rw [if_neg hyx] at h1
        by_cases hyz : y < z
        · rw [if_pos (by omega)]
        · rw [if_neg hyz] at h2
          by_cases hzy : z < y
          · simp [hzy] at h2
          · rw [if_neg hzy] at h2
            rw [if_neg (by omega), if_neg (by omega)]
            exact lex_trans a b c h1 h2
theorem hexd_mono (x y : Nat) (hx : x < 16) (hy : y < 16) : hexd x < hexd y ↔ x < y := by
  unfold hexd; split <;> split <;> omega
theorem lex_hex : ∀ a b : List Nat, (∀ c ∈ a, c < 256) → (∀ c ∈ b, c < 256) → lexLt (hexL a) (hexL b) = lexLt a b
  | [], [], _, _ => rfl
  | [], _ :: _, _, _ => rfl
  | _ :: _, [], _, _ => rfl
  | x :: a, y :: b, ha, hb => by
    have hx := ha x (by simp)
    have hy := hb y (by simp)
    have ih := lex_hex a b (fun c hc => ha c (by simp [hc])) (fun c hc => hb c (by simp [hc]))
    have m1 := hexd_mono (x / 16) (y / 16) (by omega) (by omega)
    have m2 := hexd_mono (y / 16) (x / 16) (by omega) (by omega)
    have m3 := hexd_mono (x % 16) (y % 16) (by omega) (by omega)
    have m4 := hexd_mono (y % 16) (x % 16) (by omega) (by omega)
    show lexLt (hexd (x / 16) :: hexd (x % 16) :: hexL a) (hexd (y / 16) :: hexd (y % 16) :: hexL b) = _
    simp only [lexLt, m1, m2, m3, m4, ih]
    by_cases h1 : x < y
    · rw [if_pos h1]
      by_cases h2 : x / 16 < y / 16
      · rw [if_pos h2]
      · rw [if_neg h2, if_neg (by omega), if_pos (by omega)]
    · rw [if_neg h1]
      by_cases h2 : y < x
      · rw [if_pos h2]
        by_cases h3 : y / 16 < x / 16
        · rw [if_neg (by omega), if_pos h3]
        · rw [if_neg (by omega), if_neg h3, if_neg (by omega), if_pos (by omega)]
      · rw [if_neg h2, if_neg (by omega), if_neg (by omega), if_neg (by omega), if_neg (by omega)]
theorem lex_drop : ∀ (k : Nat) (a b : List Nat), (∀ i, i < k → a[i]?.getD 0 = b[i]?.getD 0) → k ≤ a.length → k ≤ b.length → lexLt a b = lexLt (a.drop k) (b.drop k)
  | 0, _, _, _, _, _ => rfl
  | k + 1, x :: a, y :: b, h, h1, h2 => by
    have e : x = y := h 0 (by omega)
    show (if x < y then true else if y < x then false else lexLt a b) = lexLt (a.drop k) (b.drop k)
    rw [if_neg (by omega), if_neg (by omega)]
    exact lex_drop k a b (fun i hi => h (i + 1) (by omega)) (by simpa using h1) (by simpa using h2)
  | k + 1, [], _, _, h1, _ => by simp at h1
  | k + 1, _ :: _, [], _, _, h2 => by simp at h2
theorem lex_at (k : Nat) (a b : List Nat) (h : ∀ i, i < k → a[i]?.getD 0 = b[i]?.getD 0) (h1 : k < a.length) (h2 : k < b.length) (hne : a[k]?.getD 0 ≠ b[k]?.getD 0) : lexLt a b = decide (a[k]?.getD 0 < b[k]?.getD 0) := by
  rw [lex_drop k a b h (by omega) (by omega), List.drop_eq_getElem_cons h1, List.drop_eq_getElem_cons h2]
  have e1 : a[k]?.getD 0 = a[k] := by simp [h1]
  have e2 : b[k]?.getD 0 = b[k] := by simp [h2]
  rw [e1, e2] at hne ⊢
  unfold lexLt
  by_cases hlt : a[k] < b[k]
  · simp [hlt]
  · rw [if_neg hlt, if_pos (by omega)]; simp [hlt]
theorem lex_same (a b : List Nat) (h : ∀ i, i < a.length → a[i]?.getD 0 = b[i]?.getD 0) (hl : a.length = b.length) : lexLt a b = false := by
  rw [lex_drop a.length a b h (Nat.le_refl _) (by omega), List.drop_eq_nil_of_le (Nat.le_refl _), List.drop_eq_nil_of_le (by omega)]
  rfl

end ShaMath
