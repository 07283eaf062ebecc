/-
  Plain mathematics: what is put is taken, and no other bytes are that number.
-/
import Derived.Test.YtnkjfenibgiaaaaMathG
namespace NumMath

/-- The bytes of a number: all but the last one are 128 or more, the last one is less, and 0 only where it is the only one. -/
def Form (pre : List Int) (c : Int) : Prop := (∀ x ∈ pre, 128 ≤ x ∧ x ≤ 255) ∧ 0 ≤ c ∧ c < 128 ∧ (pre = [] ∨ c ≠ 0)

theorem low_pos (p : List Int) (c : Int) (h0 : 0 ≤ c) (h1 : c < 128) (hc : c ≠ 0) : 1 ≤ lowL (p ++ [c]) := by
  rw [lowL_snoc]
  have hp : (0 : Int) < 128 ^ p.length := Int.pow_pos (by omega)
  have hb := lowL_bd p
  have : 1 * 128 ^ p.length ≤ c % 128 * 128 ^ p.length := Int.mul_le_mul_of_nonneg_right (by omega) (by omega)
  omega

theorem D_low (pre : List Int) : ∀ c, Form pre c → lowL (pre ++ [c]) ≤ 18446744073709551615 → D (lowL (pre ++ [c])) = pre ++ [c] := by
  induction pre with
  | nil =>
    intro c ⟨_, h0, h1, _⟩ _
    have : lowL ([] ++ [c]) = c := by simp [lowL]; omega
    rw [this, D_small h1]; rfl
  | cons x p ih =>
    intro c ⟨hx, h0, h1, hc⟩ hm
    have hc' : c ≠ 0 := by simpa using hc
    have hx0 := hx x (by simp)
    have hlow := low_pos p c h0 h1 hc'
    rw [List.cons_append, lowL] at hm ⊢
    have ih' := ih c ⟨fun y hy => hx y (by simp [hy]), h0, h1, .inr hc'⟩ (by omega)
    rw [D_step (by omega) hm (by omega)]
    have e1 : (x % 128 + 128 * lowL (p ++ [c])) % 128 + 128 = x := by omega
    have e2 : (x % 128 + 128 * lowL (p ++ [c])) / 128 = lowL (p ++ [c]) := by omega
    rw [e1, e2, ih']

theorem digs_form (f : Nat) : ∀ v : Int, 0 ≤ v → v < 128 ^ (f + 1) → ∃ pre c, digs f v = pre ++ [c] ∧ Form pre c ∧ lowL (pre ++ [c]) = v ∧ (pre ≠ [] → 1 ≤ c) := by
  induction f with
  | zero =>
    intro v h0 h
    simp at h
    exact ⟨[], v, rfl, ⟨by simp, h0, h, .inl rfl⟩, by simp [lowL]; omega, fun h => absurd rfl h⟩
  | succ f ih =>
    intro v h0 h
    by_cases hv : v < 128
    · exact ⟨[], v, by simp [digs, hv], ⟨by simp, h0, hv, .inl rfl⟩, by simp [lowL]; omega, fun h => absurd rfl h⟩
    · obtain ⟨pre, c, hd, ⟨hx, hc0, hc1, hc2⟩, hl, hc3⟩ := ih (v / 128) (by omega) (by rw [Int.pow_succ] at h; exact Int.ediv_lt_of_lt_mul (by omega) h)
      have hcne : 1 ≤ c := by
        by_cases hp : pre = []
        · subst hp
          simp [lowL] at hl
          omega
        · exact hc3 hp
      refine ⟨(v % 128 + 128) :: pre, c, by rw [digs_succ, if_neg hv, hd]; rfl, ⟨?_, hc0, hc1, .inr (by omega)⟩, ?_, fun _ => hcne⟩
      · intro x hx'
        rcases List.mem_cons.1 hx' with rfl | hx'
        · omega
        · exact hx x hx'
      · rw [List.cons_append, lowL, hl]; omega

theorem D_form {v : Int} (h0 : 0 ≤ v) (h1 : v ≤ 18446744073709551615) : ∃ pre c, D v = pre ++ [c] ∧ Form pre c ∧ lowL (pre ++ [c]) = v := by
  obtain ⟨pre, c, a, b, d, _⟩ := digs_form 9 v h0 (by have : (128 : Int) ^ (9 + 1) = 1180591620717411303424 := by decide
                                                      rw [this]; omega)
  exact ⟨pre, c, a, b, d⟩

theorem form_fits {pre : List Int} {c : Int} (h : Form pre c) (hl : pre.length < 10) (hm : lowL (pre ++ [c]) ≤ 18446744073709551615) : fits c pre.length = true := by
  obtain ⟨_, h0, h1, hc⟩ := h
  unfold fits
  split
  · rename_i e
    rcases hc with rfl | h
    · rfl
    · exact absurd e h
  · by_cases h9 : pre.length < 9
    · simp [h9]
    · have e9 : pre.length = 9 := by omega
      rw [lowL_snoc, e9] at hm
      have hb := lowL_bd pre
      have h5 : (128 : Int) ^ 9 = 9223372036854775808 := by decide
      rw [h5] at hm
      simp; right; omega

/-- What is put is taken, whatever stands behind it. -/
theorem tak_back {v : Int} (h0 : 0 ≤ v) (h1 : v ≤ 18446744073709551615) (tail : List Int) : tak (D v ++ tail) = (v, ((D v).length : Int), 0) := by
  obtain ⟨pre, c, hd, hf, hl⟩ := D_form h0 h1
  have hlen := D_len v
  rw [hd] at hlen ⊢
  simp at hlen
  have hget : (pre ++ [c] ++ tail)[pre.length]?.getD 0 = c := by simp
  have hall : ∀ j, j < pre.length → 128 ≤ (pre ++ [c] ++ tail)[j]?.getD 0 := by
    intro j hj
    have : (pre ++ [c] ++ tail)[j]?.getD 0 = pre[j] := by
      rw [List.append_assoc, List.getElem?_append_left hj]; simp [hj]
    rw [this]
    exact (hf.1 _ (List.getElem_mem hj)).1
  rw [tak_last hall (by simp) (by omega) (by rw [hget]; exact hf.2.2.1), hget, if_pos (form_fits hf (by omega) (by omega))]
  have : (pre ++ [c] ++ tail).take (pre.length + 1) = pre ++ [c] := by
    rw [List.take_append_of_le_length (by simp), List.take_of_length_le (by simp)]
  rw [this, hl]
  simp

/-- And no less of it is. -/
theorem tak_cut {v : Int} (h0 : 0 ≤ v) (h1 : v ≤ 18446744073709551615) (i : Nat) (hi : i < (D v).length) : tak ((D v).take i) = (0, 0, 20) := by
  obtain ⟨pre, c, hd, hf, hl⟩ := D_form h0 h1
  have hlen := D_len v
  rw [hd] at hlen hi ⊢
  simp at hlen hi
  apply tak_short (k := i)
  · intro j hj
    have : ((pre ++ [c]).take i)[j]?.getD 0 = pre[j]'(by omega) := by
      rw [List.getElem?_take_of_lt hj, List.getElem?_append_left (by omega)]; simp [show j < pre.length by omega]
    rw [this]
    exact (hf.1 _ (List.getElem_mem _)).1
  · simp; omega
  · omega

/-- Whatever bytes are read as a number are just those that are laid for it. -/
theorem tak_cases (zs : List Int) (hb : ∀ c ∈ zs, 0 ≤ c ∧ c ≤ 255) : tak zs = (0, 0, 20) ∨ tak zs = (0, 0, 21) ∨
    ∃ (k : Nat) (v : Int), k < 10 ∧ k + 1 ≤ zs.length ∧ 0 ≤ v ∧ v ≤ 18446744073709551615 ∧ tak zs = (v, (k : Int) + 1, 0) ∧ D v = zs.take (k + 1) := by
  suffices H : ∀ f k, k + f = 10 → k ≤ zs.length → (∀ j, j < k → 128 ≤ zs[j]?.getD 0) → tak zs = (0, 0, 20) ∨ tak zs = (0, 0, 21) ∨
    ∃ (k : Nat) (v : Int), k < 10 ∧ k + 1 ≤ zs.length ∧ 0 ≤ v ∧ v ≤ 18446744073709551615 ∧ tak zs = (v, (k : Int) + 1, 0) ∧ D v = zs.take (k + 1) from H 10 0 rfl (by omega) (fun j hj => by omega)
  intro f
  induction f with
  | zero => intro k hk hl hall; exact .inr (.inl (tak_ten (fun j hj => hall j (by omega)) (by omega)))
  | succ f ih =>
    intro k hk hl hall
    by_cases hn : k = zs.length
    · exact .inl (tak_short hall hn (by omega))
    · by_cases hc : 128 ≤ zs[k]?.getD 0
      · refine ih (k + 1) (by omega) (by omega) (fun j hj => ?_)
        by_cases e : j = k
        · rw [e]; exact hc
        · exact hall j (by omega)
      · have ht := tak_last hall (by omega) (by omega) (by omega)
        have hkb := hb _ (mem_getD zs k (by omega))
        by_cases hf : fits (zs[k]?.getD 0) k = true
        · rw [if_pos hf] at ht
          have hmax := lowL_fits (by omega) (by omega) hf hkb.1
          refine .inr (.inr ⟨k, _, by omega, by omega, (lowL_bd _).1, hmax, ht, ?_⟩)
          have hs := take_snoc zs k (by omega)
          rw [hs] at hmax ⊢
          refine D_low (zs.take k) _ ⟨?_, hkb.1, by omega, ?_⟩ hmax
          · intro x hx
            obtain ⟨j, hj, rfl⟩ := List.getElem_of_mem hx
            have hj' : j < k := by simp at hj; omega
            have h1 := hall j hj'
            have h2 := hb _ (mem_getD zs j (by omega))
            have e : (zs.take k)[j] = zs[j]?.getD 0 := by simp [show j < zs.length by omega]
            rw [e]; omega
          · by_cases hk0 : k = 0
            · left; simp [hk0]
            · right
              intro e
              rw [e] at hf
              simp [fits] at hf
              omega
        · rw [if_neg hf] at ht
          exact .inr (.inl ht)

end NumMath
