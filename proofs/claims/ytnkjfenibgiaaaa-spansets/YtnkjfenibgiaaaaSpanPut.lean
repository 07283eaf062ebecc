/-
  What package span makes of lists of ranges, as plain mathematics: a range put at the end, the rest, and that the answers are the joined, the taken away, the list of some numbers.
-/
import Derived.Test.YtnkjfenibgiaaaaSpanMath
namespace SpanMath
open NumMath
set_option linter.unusedVariables false
set_option linter.unusedSimpArgs false

theorem R.append {a b : List Rg} : R (a ++ b) ↔ R a ∧ R b ∧ ∀ x ∈ a, ∀ y ∈ b, x.t < y.f - 1 := by
  unfold R
  rw [List.pairwise_append]
  constructor
  · rintro ⟨h1, h2, h3, h4⟩
    exact ⟨⟨fun r hr => h1 r (by simp [hr]), h2⟩, ⟨fun r hr => h1 r (by simp [hr]), h3⟩, h4⟩
  · rintro ⟨⟨h1, h2⟩, ⟨h3, h4⟩, h5⟩
    refine ⟨fun r hr => ?_, h2, h4, h5⟩
    rcases List.mem_append.1 hr with hr | hr
    · exact h1 r hr
    · exact h3 r hr

-- right, as a walk tells it
def endOf (l : List Rg) (k : Nat) : Int := if k = 0 then -1 else (l[k - 1]?.getD zero).t
theorem endOf_zero (l : List Rg) : endOf l 0 = -1 := rfl
theorem endOf_succ (l : List Rg) (k : Nat) : endOf l (k + 1) = (l[k]?.getD zero).t := by simp [endOf]
theorem okAt_ok {l : List Rg} {k : Nat} (h : okAt l k = true) : ok (l[k]?.getD zero) = true := by
  unfold okAt at h; simp only [Bool.and_eq_true] at h; exact h.1
theorem endOf_bound {l : List Rg} {k : Nat} (h : rightTo l k = true) : -1 ≤ endOf l k ∧ endOf l k ≤ 1099511627775 := by
  cases k with
  | zero => rw [endOf_zero]; omega
  | succ k =>
    rw [endOf_succ]
    have := ok_iff.1 (okAt_ok ((rightTo_iff l (k + 1)).1 h k (by omega)))
    omega
theorem okAt_end {l : List Rg} {k : Nat} (h : rightTo l k = true) (h1 : endOf l k + 2 ≤ (l[k]?.getD zero).f) (h2 : (l[k]?.getD zero).f ≤ (l[k]?.getD zero).t) (h3 : (l[k]?.getD zero).t ≤ 1099511627775) : rightTo l (k + 1) = true := by
  rw [rightTo_succ, h, Bool.true_and]
  have hb := endOf_bound h
  unfold okAt
  simp only [Bool.and_eq_true, Bool.or_eq_true, decide_eq_true_eq, ok_iff]
  refine ⟨by omega, ?_⟩
  cases k with
  | zero => exact .inl rfl
  | succ k => right; rw [endOf_succ] at h1; simp only [Nat.add_sub_cancel]; omega
theorem okAt_no {l : List Rg} {k : Nat} (hk : k < l.length) (h : (l[k]?.getD zero).f < endOf l k + 2 ∨ (l[k]?.getD zero).t < (l[k]?.getD zero).f ∨ 1099511627775 < (l[k]?.getD zero).t) : right l = false := by
  refine rightTo_no hk ?_
  cases hq : okAt l k with
  | false => rfl
  | true =>
    exfalso
    have h1 := ok_iff.1 (okAt_ok hq)
    unfold okAt at hq
    simp only [Bool.and_eq_true, Bool.or_eq_true, decide_eq_true_eq] at hq
    cases k with
    | zero => rw [endOf_zero] at h; omega
    | succ k =>
      rw [endOf_succ] at h
      simp only [Nat.add_sub_cancel] at hq
      rcases hq.2 with h2 | h2
      · simp at h2
      · omega

-- put at the end
def putM (l : List Rg) (r : Rg) : List Rg :=
  if l.length = 0 ∨ (l[l.length - 1]?.getD zero).t + 1 < r.f then l ++ [r]
  else l.take (l.length - 1) ++ [⟨(l[l.length - 1]?.getD zero).f, max (l[l.length - 1]?.getD zero).t r.t⟩]
theorem putM_nil (r : Rg) : putM [] r = [r] := rfl
theorem putM_snoc (a : List Rg) (x r : Rg) : putM (a ++ [x]) r = if x.t + 1 < r.f then a ++ [x] ++ [r] else a ++ [⟨x.f, max x.t r.t⟩] := by
  unfold putM
  have e : (a ++ [x]).length - 1 = a.length := by simp
  rw [e]
  have e2 : (a ++ [x])[a.length]?.getD zero = x := by simp
  rw [e2]
  have e3 : ¬ (a ++ [x]).length = 0 := by simp
  by_cases h : x.t + 1 < r.f
  · rw [if_pos (.inr h), if_pos h]
  · rw [if_neg (by rintro (h' | h'); exact e3 h'; exact h h'), if_neg h]; simp
theorem putM_len (l : List Rg) (r : Rg) : (putM l r).length ≤ l.length + 1 := by
  unfold putM; split
  · simp
  · simp only [List.length_append, List.length_take, List.length_cons, List.length_nil]; omega
theorem putM_pos (l : List Rg) (r : Rg) : 0 < (putM l r).length := by
  unfold putM; split <;> simp
theorem putM_spec {l : List Rg} {r : Rg} (hl : R l) (hr : ok r = true) (hle : ∀ x ∈ l, x.f ≤ r.f) :
    R (putM l r) ∧ (∀ n, In (putM l r) n ↔ In l n ∨ (r.f ≤ n ∧ n ≤ r.t)) ∧ ∀ x ∈ putM l r, x.f ≤ r.f := by
  have orr := ok_iff.1 hr
  rcases List.eq_nil_or_concat l with rfl | ⟨a, x, rfl⟩
  · rw [putM_nil]
    exact ⟨R.one.2 hr, fun n => by rw [In.cons]; simp [In.nil], fun x hx => by simp at hx; rw [hx]; exact Int.le_refl _⟩
  · rw [List.concat_eq_append] at *
    obtain ⟨ha, hx, hax⟩ := R.append.1 hl
    have ox := ok_iff.1 (R.one.1 hx)
    have hxr := hle x (by simp)
    rw [putM_snoc]
    split
    · next h =>
      refine ⟨R.append.2 ⟨hl, R.one.2 hr, fun y hy z hz => ?_⟩, fun n => ?_, fun y hy => ?_⟩
      · simp at hz; subst hz
        rcases List.mem_append.1 hy with hy | hy
        · have := hax y hy x (by simp); omega
        · simp at hy; subst hy; omega
      · rw [In.append, In.cons]; simp [In.nil]
      · rcases List.mem_append.1 hy with hy | hy
        · exact hle y hy
        · simp at hy; rw [hy]; exact Int.le_refl _
    · next h =>
      have hm : ok ⟨x.f, max x.t r.t⟩ = true := ok_iff.2 ⟨by simp only []; omega, by simp only []; omega, by simp only []; omega⟩
      refine ⟨R.append.2 ⟨ha, R.one.2 hm, fun y hy z hz => ?_⟩, fun n => ?_, fun y hy => ?_⟩
      · simp at hz; subst hz
        exact hax y hy x (by simp)
      · rw [In.append, In.append, In.cons, In.cons]
        simp only [In.nil, or_false]
        constructor
        · rintro (h1 | h1)
          · exact .inl (.inl h1)
          · by_cases hn : n ≤ x.t
            · exact .inl (.inr ⟨h1.1, hn⟩)
            · exact .inr (by omega)
        · rintro ((h1 | h1) | h1)
          · exact .inl h1
          · exact .inr (by omega)
          · exact .inr (by omega)
      · rcases List.mem_append.1 hy with hy | hy
        · exact hle y (by simp [hy])
        · simp at hy; rw [hy]; exact hxr
theorem putAll_spec : ∀ (l acc : List Rg), (∀ r ∈ l, ok r = true) → l.Pairwise (fun a b => a.f ≤ b.f) → R acc → (∀ x ∈ acc, ∀ r ∈ l, x.f ≤ r.f) →
    R (l.foldl putM acc) ∧ ∀ n, In (l.foldl putM acc) n ↔ In acc n ∨ In l n
  | [], acc, _, _, h, _ => ⟨h, fun n => by simp [In.nil]⟩
  | r :: t, acc, ho, hp, h, hle => by
    obtain ⟨p1, p2⟩ := List.pairwise_cons.1 hp
    obtain ⟨h1, h2, h3⟩ := putM_spec h (ho r (by simp)) (fun x hx => hle x hx r (by simp))
    obtain ⟨h4, h5⟩ := putAll_spec t (putM acc r) (fun x hx => ho x (by simp [hx])) p2 h1 (fun x hx y hy => Int.le_trans (h3 x hx) (p1 y hy))
    rw [List.foldl_cons]
    refine ⟨h4, fun n => ?_⟩
    rw [h5, h2, In.cons, or_assoc]
def putTo (l : List Rg) : List Rg := l.foldl putM []
theorem putTo_nil : putTo [] = [] := rfl
theorem putTo_snoc (l : List Rg) (r : Rg) : putTo (l ++ [r]) = putM (putTo l) r := by simp [putTo, List.foldl_append]
theorem putTo_take {l : List Rg} {k : Nat} (hk : k < l.length) : putTo (l.take (k + 1)) = putM (putTo (l.take k)) (l[k]?.getD zero) := by
  rw [List.take_succ_eq_append_getElem hk, putTo_snoc]; simp [hk]
theorem putTo_len (l : List Rg) : ∀ k, k ≤ l.length → (putTo (l.take k)).length ≤ k
  | 0, _ => by simp [putTo]
  | k + 1, h => by
    rw [putTo_take h]
    have := putM_len (putTo (l.take k)) (l[k]?.getD zero)
    have := putTo_len l k (by omega)
    omega
theorem In.perm {a b : List Rg} (h : ∀ r, r ∈ a ↔ r ∈ b) (n : Int) : In a n ↔ In b n := by
  unfold In
  constructor
  · rintro ⟨r, hr, hn⟩; exact ⟨r, (h r).1 hr, hn⟩
  · rintro ⟨r, hr, hn⟩; exact ⟨r, (h r).2 hr, hn⟩
theorem put_is_join {xs ys s : List Rg} (hx : R xs) (hy : R ys) (hm : ∀ r, r ∈ s ↔ r ∈ xs ++ ys) (hs : s.Pairwise (fun a b => a.f ≤ b.f)) : putTo s = join xs ys := by
  have ho : ∀ r ∈ s, ok r = true := fun r hr => by
    rcases List.mem_append.1 ((hm r).1 hr) with h | h
    · exact hx.1 r h
    · exact hy.1 r h
  obtain ⟨h1, h2⟩ := putAll_spec s [] ho hs R.nil (fun x hx => by cases hx)
  refine ext h1 (join_R hx hy) (fun n => ?_)
  show In (s.foldl putM []) n ↔ _
  rw [h2, join_in hx hy, In.perm hm, In.append]
  simp [In.nil]

-- numbers that are put one by one
def okN (n : Int) : Prop := 1 ≤ n ∧ n ≤ 1099511627775
def ofP (l : List Int) : List Rg := l.foldl (fun acc n => if 1 ≤ n ∧ n ≤ 1099511627775 then putM acc ⟨n, n⟩ else acc) []
theorem ofP_snoc (l : List Int) (n : Int) : ofP (l ++ [n]) = if 1 ≤ n ∧ n ≤ 1099511627775 then putM (ofP l) ⟨n, n⟩ else ofP l := by simp [ofP, List.foldl_append]
theorem ofP_take {l : List Int} {k : Nat} (hk : k < l.length) : ofP (l.take (k + 1)) = if 1 ≤ l[k]?.getD 0 ∧ l[k]?.getD 0 ≤ 1099511627775 then putM (ofP (l.take k)) ⟨l[k]?.getD 0, l[k]?.getD 0⟩ else ofP (l.take k) := by
  rw [List.take_succ_eq_append_getElem hk, ofP_snoc]; simp [hk]
theorem ofP_len (l : List Int) : ∀ k, k ≤ l.length → (ofP (l.take k)).length ≤ k
  | 0, _ => by simp [ofP]
  | k + 1, h => by
    rw [ofP_take h]
    have := ofP_len l k (by omega)
    split
    · have := putM_len (ofP (l.take k)) ⟨l[k]?.getD 0, l[k]?.getD 0⟩; omega
    · omega
theorem ofP_fold : ∀ (l : List Int) (acc : List Rg), l.Pairwise (· ≤ ·) → R acc → (∀ x ∈ acc, ∀ n ∈ l, x.f ≤ n) →
    R (l.foldl (fun acc n => if 1 ≤ n ∧ n ≤ 1099511627775 then putM acc ⟨n, n⟩ else acc) acc) ∧
    ∀ m, In (l.foldl (fun acc n => if 1 ≤ n ∧ n ≤ 1099511627775 then putM acc ⟨n, n⟩ else acc) acc) m ↔ In acc m ∨ (m ∈ l ∧ 1 ≤ m ∧ m ≤ 1099511627775)
  | [], acc, _, h, _ => ⟨h, fun m => by simp⟩
  | n :: t, acc, hp, h, hle => by
    obtain ⟨p1, p2⟩ := List.pairwise_cons.1 hp
    rw [List.foldl_cons]
    by_cases hn : 1 ≤ n ∧ n ≤ 1099511627775
    · rw [if_pos hn]
      have hk : ok ⟨n, n⟩ = true := ok_iff.2 ⟨hn.1, hn.2, Int.le_refl _⟩
      obtain ⟨h1, h2, h3⟩ := putM_spec h hk (fun x hx => hle x hx n (by simp))
      obtain ⟨h4, h5⟩ := ofP_fold t (putM acc ⟨n, n⟩) p2 h1 (fun x hx y hy => Int.le_trans (h3 x hx) (p1 y hy))
      refine ⟨h4, fun m => ?_⟩
      rw [h5, h2]
      simp only [List.mem_cons]
      constructor
      · rintro ((h | h) | h)
        · exact .inl h
        · exact .inr ⟨.inl (by omega), by omega⟩
        · exact .inr ⟨.inr h.1, h.2⟩
      · rintro (h | ⟨h | h, h3⟩)
        · exact .inl (.inl h)
        · exact .inl (.inr (by omega))
        · exact .inr ⟨h, h3⟩
    · rw [if_neg hn]
      obtain ⟨h1, h2⟩ := ofP_fold t acc p2 h (fun x hx y hy => hle x hx y (by simp [hy]))
      refine ⟨h1, fun m => ?_⟩
      rw [h2]
      simp only [List.mem_cons]
      constructor
      · rintro (h | h)
        · exact .inl h
        · exact .inr ⟨.inr h.1, h.2⟩
      · rintro (h | ⟨h | h, h3⟩)
        · exact .inl h
        · exact absurd h3 (by rw [h]; exact hn)
        · exact .inr ⟨h, h3⟩
theorem ofP_is {zs s : List Int} (hm : ∀ n, n ∈ s ↔ n ∈ zs) (hs : s.Pairwise (· ≤ ·)) : ofP s = ofTo zs := by
  obtain ⟨h1, h2⟩ := ofP_fold s [] hs R.nil (fun x hx => by cases hx)
  refine ext h1 (ofTo_R zs) (fun n => ?_)
  show In (s.foldl _ []) n ↔ _
  rw [h2, ofTo_in, hm]
  simp [In.nil]

-- the rest
def gaps (b : Int) : List Rg → List Rg
  | [] => if b ≤ 1099511627775 then [⟨b, 1099511627775⟩] else []
  | r :: l => (if b < r.f then [⟨b, r.f - 1⟩] else []) ++ gaps (r.t + 1) l
theorem gaps_spec : ∀ (l : List Rg) (b : Int), R l → (∀ r ∈ l, b ≤ r.f) → 1 ≤ b →
    R (gaps b l) ∧ (∀ n, In (gaps b l) n ↔ (b ≤ n ∧ n ≤ 1099511627775) ∧ ¬ In l n) ∧ ∀ y ∈ gaps b l, b ≤ y.f
  | [], b, _, _, hb => by
    unfold gaps
    split
    · next h =>
      refine ⟨R.one.2 (ok_iff.2 ⟨hb, Int.le_refl _, h⟩), fun n => ?_, fun y hy => ?_⟩
      · rw [In.cons]; simp [In.nil]
      · simp at hy; rw [hy]; exact Int.le_refl _
    · next h =>
      refine ⟨R.nil, fun n => ?_, by simp⟩
      simp only [In.nil, not_false_eq_true, and_true]
      constructor
      · exact fun h => h.elim
      · omega
  | r :: l, b, hl, hle, hb => by
    obtain ⟨hr, hrl, hlr⟩ := R.cons.1 hl
    have orr := ok_iff.1 hr
    have hbr := hle r (by simp)
    obtain ⟨h1, h2, h3⟩ := gaps_spec l (r.t + 1) hlr (fun y hy => by have := hrl y hy; omega) (by omega)
    have hlow : ∀ n, In l n → r.t + 1 < n := fun n ⟨y, hy, h4, _⟩ => by have := hrl y hy; omega
    unfold gaps
    have hin : ∀ n, (b ≤ n ∧ n ≤ r.f - 1) ∨ ((r.t + 1 ≤ n ∧ n ≤ 1099511627775) ∧ ¬ In l n) ↔ (b ≤ n ∧ n ≤ 1099511627775) ∧ ¬ ((r.f ≤ n ∧ n ≤ r.t) ∨ In l n) := fun n => by
      constructor
      · rintro (h | ⟨h, h'⟩)
        · refine ⟨by omega, ?_⟩
          rintro (h4 | h4)
          · omega
          · have := hlow n h4; omega
        · exact ⟨by omega, fun h4 => h4.elim (fun h5 => by omega) h'⟩
      · rintro ⟨h, h'⟩
        by_cases hn : n ≤ r.f - 1
        · exact .inl ⟨h.1, hn⟩
        · by_cases ht : n ≤ r.t
          · exact absurd (.inl ⟨by omega, ht⟩) h'
          · exact .inr ⟨⟨by omega, h.2⟩, fun h4 => h' (.inr h4)⟩
    split
    · next h =>
      refine ⟨R.append.2 ⟨R.one.2 (ok_iff.2 ⟨hb, by simp only []; omega, by simp only []; omega⟩), h1, fun x hx y hy => ?_⟩, fun n => ?_, fun y hy => ?_⟩
      · simp at hx; have := h3 y hy; rw [hx]; simp only []; omega
      · rw [In.append, h2, In.cons, In.cons]
        simp only [In.nil, or_false]
        exact hin n
      · rcases List.mem_append.1 hy with hy | hy
        · simp at hy; rw [hy]; exact Int.le_refl _
        · have := h3 y hy; omega
    · next h =>
      refine ⟨by simpa using h1, fun n => ?_, fun y hy => ?_⟩
      · rw [List.nil_append, h2, In.cons, ← hin n]
        constructor
        · exact fun h => .inr h
        · rintro (h | h)
          · omega
          · exact h
      · have := h3 y (by simpa using hy); omega
def rest (l : List Rg) : List Rg := gaps 1 l
theorem rest_spec {l : List Rg} (h : R l) : R (rest l) ∧ ∀ n, In (rest l) n ↔ (1 ≤ n ∧ n ≤ 1099511627775) ∧ ¬ In l n := by
  obtain ⟨h1, h2, _⟩ := gaps_spec l 1 h (fun r hr => (ok_iff.1 (h.1 r hr)).1) (Int.le_refl _)
  exact ⟨h1, h2⟩
theorem rest_is_minus {a b : List Rg} (ha : R a) (hb : R b) : rest (join (rest a) b) = minus a b := by
  obtain ⟨h1, h2⟩ := rest_spec ha
  have hj := join_R h1 hb
  obtain ⟨h3, h4⟩ := rest_spec hj
  refine ext h3 (minus_R ha hb) (fun n => ?_)
  rw [h4, minus_in ha hb, join_in h1 hb, h2]
  constructor
  · rintro ⟨h, h'⟩
    by_cases hn : In a n
    · exact ⟨hn, fun hq => h' (.inr hq)⟩
    · exact absurd (.inl ⟨h, hn⟩) h'
  · rintro ⟨h, h'⟩
    refine ⟨In.bound ha h, ?_⟩
    rintro (h5 | h5)
    · exact h5.2 h
    · exact h' h5
theorem gaps_len : ∀ (l : List Rg) (b : Int), (gaps b l).length ≤ l.length + 1
  | [], b => by unfold gaps; split <;> simp
  | r :: l, b => by
    have := gaps_len l (r.t + 1)
    unfold gaps; split <;> simp <;> omega
theorem rest_len (l : List Rg) : (rest l).length ≤ l.length + 1 := gaps_len l 1
-- one step of the rest
theorem gaps_step {l : List Rg} {k : Nat} (b : Int) (hk : k < l.length) : gaps b (l.drop k) = (if b < (l[k]?.getD zero).f then [⟨b, (l[k]?.getD zero).f - 1⟩] else []) ++ gaps ((l[k]?.getD zero).t + 1) (l.drop (k + 1)) := by
  rw [List.drop_eq_getElem_cons hk]; simp [gaps, hk]
-- the first
theorem first_no {l : List Rg} (h : right l = false ∨ l.length = 0 ∨ (right l = true ∧ (l[0]?.getD zero).f ≠ 1)) : first l = 0 := by
  unfold first
  rw [if_neg]
  rintro ⟨h1, h2, h3⟩
  rcases h with h | h | ⟨h, h'⟩
  · rw [h1] at h; cases h
  · exact h2 (List.eq_nil_of_length_eq_zero h)
  · have hR := (right_iff l).1 h1
    cases l with
    | nil => exact h2 rfl
    | cons x t =>
      have := ok_iff.1 (hR.1 x (by simp))
      simp at h3 h'
      omega
theorem first_yes {l : List Rg} (h : right l = true) (h0 : 0 < l.length) (h1 : (l[0]?.getD zero).f = 1) : first l = (l[0]?.getD zero).t := by
  unfold first
  rw [if_pos ⟨h, fun e => by rw [e] at h0; simp at h0, by omega⟩]
end SpanMath
