/-
  What layer 10's laws say, of lists of ranges as plain mathematics.
-/
import Derived.Test.YtnkjfenibgiaaaaSpanMath
import Derived.Test.YtnkjfenibgiaaaaBitsMath
namespace SpanMath
open NumMath
set_option linter.unusedVariables false
set_option linter.unusedSimpArgs false

theorem bitsTo_mem {x base : Int} {n : Nat} {m : Int} : m ∈ bitsTo x base n ↔ ∃ i, i < n ∧ bit x i = true ∧ m = base + 1 + (i : Int) := by
  unfold bitsTo
  simp only [List.mem_map, List.mem_filter, List.mem_range]
  constructor
  · rintro ⟨i, ⟨h1, h2⟩, h3⟩; exact ⟨i, h1, h2, h3.symm⟩
  · rintro ⟨i, h1, h2, h3⟩; exact ⟨i, ⟨h1, h2⟩, h3.symm⟩
/-- The list of ranges of a number's bits. -/
def B (x base : Int) : List Rg := ofTo (bitsTo x base 64)
theorem B_R (x base : Int) : R (B x base) := ofTo_R _
theorem B_in {x base m : Int} (h0 : 0 ≤ base) (h1 : base ≤ 1099511627711) : In (B x base) m ↔ ∃ i : Nat, i < 64 ∧ bit x i = true ∧ m = base + 1 + (i : Int) := by
  unfold B
  rw [ofTo_in, bitsTo_mem]
  constructor
  · rintro ⟨h, _⟩; exact h
  · rintro ⟨i, hi, hb, rfl⟩; exact ⟨⟨i, hi, hb, rfl⟩, by omega, by omega⟩
theorem B_at {x base : Int} (h0 : 0 ≤ base) (h1 : base ≤ 1099511627711) {i : Nat} (hi : i < 64) : In (B x base) (base + 1 + (i : Int)) ↔ bit x i = true := by
  rw [B_in h0 h1]
  constructor
  · rintro ⟨j, hj, hb, he⟩
    have : i = j := by omega
    rw [this]; exact hb
  · intro h; exact ⟨i, hi, h, rfl⟩
theorem B_span {x base m : Int} (h0 : 0 ≤ base) (h1 : base ≤ 1099511627711) (h : In (B x base) m) : base + 1 ≤ m ∧ m ≤ base + 64 := by
  obtain ⟨i, hi, _, rfl⟩ := (B_in h0 h1).1 h
  omega
theorem has_of {l : List Rg} (h : R l) (n : Int) : has l n = hasIn l n := by unfold has; rw [(right_iff l).2 h, Bool.true_and]
/-- What lies outside a list's ranges. -/
theorem In.ge {l : List Rg} (h : R l) {b n : Int} (hb : ∀ r ∈ l, b ≤ r.f) (hn : In l n) : b ≤ n := by
  obtain ⟨r, hr, h1, _⟩ := hn; have := hb r hr; omega
theorem countP_or (p q : Nat → Bool) : ∀ l : List Nat, (∀ i ∈ l, ¬ (p i = true ∧ q i = true)) → l.countP (fun i => p i || q i) = l.countP p + l.countP q
  | [], _ => by simp
  | i :: l, h => by
    have ih := countP_or p q l (fun j hj => h j (by simp [hj]))
    have hi := h i (by simp)
    simp only [List.countP_cons, ih]
    cases hp : p i <;> cases hq : q i <;> simp_all <;> omega
theorem countP_iv (b f t : Int) : ∀ N : Nat, b + 1 ≤ f → f ≤ t + 1 → ((List.range N).countP (fun i : Nat => decide (f ≤ b + 1 + (i : Int)) && decide (b + 1 + (i : Int) ≤ t)) : Int) = max 0 (min t (b + N) - f + 1)
  | 0, h1, h2 => by simp; omega
  | N + 1, h1, h2 => by
    have ih := countP_iv b f t N h1 h2
    rw [List.range_succ, List.countP_append]
    simp only [List.countP_cons, List.countP_nil]
    by_cases ha : f ≤ b + 1 + (N : Int) <;> by_cases hb : b + 1 + (N : Int) ≤ t <;> simp [ha, hb] <;> omega
/-- A list's count is the count of the numbers in it. -/
theorem sum_count (b : Int) (N : Nat) : ∀ l : List Rg, R l → (∀ r ∈ l, b + 1 ≤ r.f ∧ r.t ≤ b + (N : Int)) → sum l = ((List.range N).countP (fun i : Nat => hasIn l (b + 1 + (i : Int))) : Int)
  | [], _, _ => by simp [sum, hasIn]
  | x :: l, h, hl => by
    obtain ⟨hx, hxl, hr⟩ := R.cons.1 h
    have ox := ok_iff.1 hx
    have hx2 := hl x (by simp)
    have ih := sum_count b N l hr (fun r hr' => hl r (by simp [hr']))
    have e : (fun i : Nat => hasIn (x :: l) (b + 1 + (i : Int))) = fun i : Nat => (decide (x.f ≤ b + 1 + (i : Int)) && decide (b + 1 + (i : Int) ≤ x.t)) || hasIn l (b + 1 + (i : Int)) := by
      funext i; simp [hasIn]
    have hd : ∀ i ∈ List.range N, ¬ ((decide (x.f ≤ b + 1 + (i : Int)) && decide (b + 1 + (i : Int) ≤ x.t)) = true ∧ hasIn l (b + 1 + (i : Int)) = true) := by
      rintro i _ ⟨h1, h2⟩
      rw [hasIn_iff] at h2
      obtain ⟨y, hy, hy1, _⟩ := h2
      have := hxl y hy
      simp only [Bool.and_eq_true, decide_eq_true_eq] at h1
      omega
    rw [e, countP_or _ _ _ hd]
    have hi := countP_iv b x.f x.t N hx2.1 (by omega)
    simp only [sum, Int.natCast_add, ih, hi]
    omega
theorem count_of {l : List Rg} (h : R l) : count l = sum l := by unfold count; rw [if_pos ((right_iff l).2 h)]
theorem hasIn_of {l : List Rg} {n : Int} {b : Bool} (h : In l n ↔ b = true) : hasIn l n = b := by
  cases hb : b with
  | true => exact (hasIn_iff l n).2 (h.2 hb)
  | false =>
    cases hq : hasIn l n with
    | false => rfl
    | true => rw [hb] at h; exact absurd (h.1 ((hasIn_iff l n).1 hq)) (by simp)
-- any right lists
theorem join_comm {a b : List Rg} (ha : R a) (hb : R b) : join a b = join b a := ext (join_R ha hb) (join_R hb ha) fun n => by rw [join_in ha hb, join_in hb ha]; exact Or.comm
theorem join_again {a b : List Rg} (ha : R a) (hb : R b) : join (join a b) a = join a b := ext (join_R (join_R ha hb) ha) (join_R ha hb) fun n => by
  rw [join_in (join_R ha hb) ha, join_in ha hb]
  constructor
  · rintro (h | h)
    · exact h
    · exact .inl h
  · exact .inl
theorem parts_join {a b : List Rg} (ha : R a) (hb : R b) : join (minus a b) (minus a (minus a b)) = a := by
  have hm := minus_R ha hb
  have hm2 := minus_R ha hm
  refine ext (join_R hm hm2) ha fun n => ?_
  rw [join_in hm hm2, minus_in ha hm, minus_in ha hb]
  by_cases h1 : In a n <;> by_cases h2 : In b n <;> simp [h1, h2]
theorem join_minus {a b : List Rg} (ha : R a) (hb : R b) : minus (join a b) b = minus a b := ext (minus_R (join_R ha hb) hb) (minus_R ha hb) fun n => by
  rw [minus_in (join_R ha hb) hb, join_in ha hb, minus_in ha hb]
  by_cases h1 : In a n <;> by_cases h2 : In b n <;> simp [h1, h2]
theorem join_assoc {a b c : List Rg} (ha : R a) (hb : R b) (hc : R c) : join (join a b) c = join a (join b c) := ext (join_R (join_R ha hb) hc) (join_R ha (join_R hb hc)) fun n => by
  rw [join_in (join_R ha hb) hc, join_in ha hb, join_in ha (join_R hb hc), join_in hb hc]; exact or_assoc
theorem minus_minus {a b c : List Rg} (ha : R a) (hb : R b) (hc : R c) : minus (minus a b) c = minus a (join b c) := ext (minus_R (minus_R ha hb) hc) (minus_R ha (join_R hb hc)) fun n => by
  rw [minus_in (minus_R ha hb) hc, minus_in ha hb, minus_in ha (join_R hb hc), join_in hb hc]
  by_cases h1 : In a n <;> by_cases h2 : In b n <;> simp [h1, h2]
theorem minus_self {a : List Rg} (ha : R a) : minus a a = [] := ext (minus_R ha ha) R.nil fun n => by
  rw [minus_in ha ha]
  exact ⟨fun h => absurd h.1 h.2, fun h => absurd h In.nil⟩
theorem minus_nil {a : List Rg} (ha : R a) : minus a [] = a := ext (minus_R ha R.nil) ha fun n => by
  rw [minus_in ha R.nil]
  exact ⟨fun h => h.1, fun h => ⟨h, In.nil⟩⟩
theorem add_again {l : List Rg} {r : Rg} (hl : R l) (hr : ok r = true) : add (add l r) r = add l r := by
  have h1 := add_R hl hr
  refine ext (add_R h1 hr) h1 fun n => ?_
  rw [add_in h1 hr, add_in hl hr]
  by_cases h2 : r.f ≤ n ∧ n ≤ r.t <;> by_cases h3 : In l n <;> simp [h2, h3]
theorem add_no (l : List Rg) (r : Rg) (h : r.t < r.f) : add l r = [] := by
  unfold add
  rw [if_neg]
  rintro ⟨_, h2⟩
  have := ok_iff.1 h2
  omega
theorem add_has {l : List Rg} {r : Rg} (hl : R l) (hr : ok r = true) (k : Int) : hasIn (add l r) k = (hasIn l k || (decide (r.f ≤ k) && decide (k ≤ r.t))) := by
  refine hasIn_of ?_
  rw [add_in hl hr, Bool.or_eq_true, hasIn_iff, Bool.and_eq_true, decide_eq_true_eq, decide_eq_true_eq]
  exact Or.comm
theorem bits_sum {base : Int} {l : List Rg} (hl : R l) (hs : ∀ n, In l n → base + 1 ≤ n ∧ n ≤ base + 64) : sum l = ((List.range 64).countP (fun i : Nat => hasIn l (base + 1 + (i : Int))) : Int) := by
  refine sum_count base 64 l hl fun r hr => ?_
  have o := ok_iff.1 (hl.1 r hr)
  have hf := hs r.f ⟨r, hr, Int.le_refl _, o.2.2⟩
  have ht := hs r.t ⟨r, hr, o.2.2, Int.le_refl _⟩
  exact ⟨hf.1, by simpa using ht.2⟩
-- numbers of bits
theorem bits_join_has {x y base : Int} (h0 : 0 ≤ base) (h1 : base ≤ 1099511627711) {i : Nat} (hi : i < 64) : hasIn (join (B x base) (B y base)) (base + 1 + (i : Int)) = (bit x i || bit y i) := by
  refine hasIn_of ?_
  rw [join_in (B_R _ _) (B_R _ _), B_at h0 h1 hi, B_at h0 h1 hi, Bool.or_eq_true]
theorem bits_minus_has {x y base : Int} (h0 : 0 ≤ base) (h1 : base ≤ 1099511627711) {i : Nat} (hi : i < 64) : hasIn (minus (B x base) (B y base)) (base + 1 + (i : Int)) = (bit x i && !bit y i) := by
  refine hasIn_of ?_
  rw [minus_in (B_R _ _) (B_R _ _), B_at h0 h1 hi, B_at h0 h1 hi, Bool.and_eq_true]
  simp
theorem bits_join {x y z base : Int} (h0 : 0 ≤ base) (h1 : base ≤ 1099511627711) (hz : ∀ i, i < 64 → bit z i = (bit x i || bit y i)) : join (B x base) (B y base) = B z base := ext (join_R (B_R _ _) (B_R _ _)) (B_R _ _) fun n => by
  rw [join_in (B_R _ _) (B_R _ _), B_in h0 h1, B_in h0 h1, B_in h0 h1]
  constructor
  · rintro (⟨i, hi, hb, he⟩ | ⟨i, hi, hb, he⟩)
    · exact ⟨i, hi, by rw [hz i hi, hb]; rfl, he⟩
    · exact ⟨i, hi, by rw [hz i hi, hb, Bool.or_true], he⟩
  · rintro ⟨i, hi, hb, he⟩
    rw [hz i hi, Bool.or_eq_true] at hb
    rcases hb with hb | hb
    · exact .inl ⟨i, hi, hb, he⟩
    · exact .inr ⟨i, hi, hb, he⟩
theorem bits_minus {x y z base : Int} (h0 : 0 ≤ base) (h1 : base ≤ 1099511627711) (hz : ∀ i, i < 64 → bit z i = (bit x i && !bit y i)) : minus (B x base) (B y base) = B z base := ext (minus_R (B_R _ _) (B_R _ _)) (B_R _ _) fun n => by
  rw [minus_in (B_R _ _) (B_R _ _), B_in h0 h1, B_in h0 h1, B_in h0 h1]
  constructor
  · rintro ⟨⟨i, hi, hb, he⟩, hn⟩
    refine ⟨i, hi, ?_, he⟩
    rw [hz i hi, hb, Bool.true_and]
    cases hq : bit y i with
    | false => rfl
    | true => exact absurd ⟨i, hi, hq, he⟩ hn
  · rintro ⟨i, hi, hb, he⟩
    rw [hz i hi, Bool.and_eq_true] at hb
    refine ⟨⟨i, hi, hb.1, he⟩, ?_⟩
    rintro ⟨j, hj, hq, he2⟩
    have : i = j := by omega
    subst this
    rw [hq] at hb
    simp at hb
theorem bits_span {x y base : Int} (h0 : 0 ≤ base) (h1 : base ≤ 1099511627711) {n : Int} (h : In (join (B x base) (B y base)) n) : base + 1 ≤ n ∧ n ≤ base + 64 := by
  rw [join_in (B_R _ _) (B_R _ _)] at h
  rcases h with h | h
  · exact B_span h0 h1 h
  · exact B_span h0 h1 h
theorem bits_minus_sum {x y base : Int} (h0 : 0 ≤ base) (h1 : base ≤ 1099511627711) : sum (minus (B x base) (B y base)) = ((List.range 64).countP (fun i : Nat => bit x i && !bit y i) : Int) := by
  rw [bits_sum (minus_R (B_R _ _) (B_R _ _)) (fun n hn => B_span h0 h1 ((minus_in (B_R _ _) (B_R _ _) n).1 hn).1)]
  congr 1
  exact List.countP_congr fun i hi => by rw [bits_minus_has h0 h1 (by simpa using hi)]
theorem bits_join_sum {x y base : Int} (h0 : 0 ≤ base) (h1 : base ≤ 1099511627711) : sum (join (B x base) (B y base)) = ((List.range 64).countP (fun i : Nat => bit x i && !bit y i) : Int) + sum (B y base) := by
  rw [bits_sum (join_R (B_R _ _) (B_R _ _)) (fun n hn => bits_span h0 h1 hn), bits_sum (B_R _ _) (fun n hn => B_span h0 h1 hn), ← Int.natCast_add]
  congr 1
  rw [← countP_or]
  · exact List.countP_congr fun i hi => by
      have hi' : i < 64 := by simpa using hi
      rw [bits_join_has h0 h1 hi', hasIn_of (B_at h0 h1 hi')]
      cases bit x i <;> cases bit y i <;> simp
  · intro i hi
    have hi' : i < 64 := by simpa using hi
    rw [hasIn_of (B_at h0 h1 hi')]
    cases bit x i <;> cases bit y i <;> simp
theorem bits_join_out {x y base : Int} (h0 : 0 ≤ base) (h1 : base ≤ 1099511627711) : hasIn (join (B x base) (B y base)) base = false ∧ hasIn (join (B x base) (B y base)) (base + 65) = false := by
  refine ⟨hasIn_of (b := false) ⟨fun h => ?_, fun h => by cases h⟩, hasIn_of (b := false) ⟨fun h => ?_, fun h => by cases h⟩⟩
  · have := bits_span h0 h1 h; omega
  · have := bits_span h0 h1 h; omega
-- the first numbers
theorem first_of {l : List Rg} (h : R l) {M : Int} (hM : 0 ≤ M) (hs : ∀ n, In l n → n ≤ M) : (0 ≤ first l ∧ first l ≤ M) ∧ (∀ i, 1 ≤ i → i ≤ first l → hasIn l i = true) ∧ hasIn l (first l + 1) = false ∧ first l ≤ sum l := by
  cases l with
  | nil => simp [first, hasIn, sum, hM]; intro i h; omega
  | cons r t =>
    obtain ⟨hr, hrt, ht⟩ := R.cons.1 h
    have o := ok_iff.1 hr
    have hs0 := (sum_le ht).1
    have hq := (right_iff _).2 h
    by_cases hf : r.f ≤ 1
    · have e : first (r :: t) = r.t := by unfold first; rw [if_pos ⟨hq, by simp, by simpa using hf⟩]; rfl
      rw [e]
      refine ⟨⟨by omega, hs r.t ⟨r, by simp, o.2.2, Int.le_refl _⟩⟩, fun i h1 h2 => ?_, ?_, ?_⟩
      · rw [hasIn_iff]; exact ⟨r, by simp, by omega, h2⟩
      · refine hasIn_of (b := false) ⟨fun hi => ?_, fun hi => by cases hi⟩
        rcases In.cons.1 hi with hi | ⟨y, hy, h2, _⟩
        · omega
        · have := hrt y hy; omega
      · simp only [sum]; omega
    · have e : first (r :: t) = 0 := by unfold first; rw [if_neg]; rintro ⟨_, _, h3⟩; exact hf (by simpa using h3)
      rw [e]
      refine ⟨⟨by omega, hM⟩, fun i h1 h2 => by omega, ?_, ?_⟩
      · refine hasIn_of (b := false) ⟨fun hi => ?_, fun hi => by cases hi⟩
        rcases In.cons.1 hi with hi | ⟨y, hy, h2, _⟩
        · omega
        · have := hrt y hy; omega
      · simp only [sum]; omega
/-- A number given is in the list of them, if it is one that may be. -/
theorem of_has {zs : List Int} {n : Int} (h : n ∈ zs) : hasIn (ofTo zs) n = (decide (1 ≤ n) && decide (n ≤ 1099511627775)) := by
  refine hasIn_of ?_
  rw [ofTo_in, Bool.and_eq_true, decide_eq_true_eq, decide_eq_true_eq]
  exact ⟨fun h => h.2, fun h2 => ⟨h, h2⟩⟩
-- bits of numbers put together
theorem bit_nat (n i : Nat) : bit (n : Int) i = n.testBit i := by
  unfold bit
  rw [Nat.testBit_eq_decide_div_mod_eq]
  have : (n : Int) / 2 ^ i % 2 = ((n / 2 ^ i % 2 : Nat) : Int) := by simp
  rw [this]
  by_cases h : n / 2 ^ i % 2 = 1 <;> simp [h] <;> omega
theorem bit_or (n m i : Nat) : bit ((n ||| m : Nat) : Int) i = (bit (n : Int) i || bit (m : Int) i) := by simp only [bit_nat, Nat.testBit_or]
theorem bit_andNot (n m i : Nat) (hm : m < 18446744073709551616) (hi : i < 64) : bit ((n &&& (18446744073709551615 - m) : Nat) : Int) i = (bit (n : Int) i && !bit (m : Int) i) := by
  simp only [bit_nat, Nat.testBit_and]
  rw [show 18446744073709551615 - m = 2 ^ 64 - (m + 1) by omega, Nat.testBit_two_pow_sub_succ (by omega)]
  simp [hi]
end SpanMath
