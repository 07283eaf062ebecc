/-
  Lists of ranges as plain mathematics: which are right, what is in them, adding, joining, taking away; a right list is told by what is in it.
-/
import Derived.Test.YtnkjfenibgiaaaaMathI
namespace SpanMath
open NumMath
set_option linter.unusedVariables false
set_option linter.unusedSimpArgs false

structure Rg where
  f : Int
  t : Int
theorem Rg.eq_iff {a b : Rg} : a = b ↔ a.f = b.f ∧ a.t = b.t := by cases a; cases b; simp
def zero : Rg := ⟨0, 0⟩
def Fit (r : Rg) : Prop := (-9223372036854775808 ≤ r.f ∧ r.f ≤ 9223372036854775807) ∧ (-9223372036854775808 ≤ r.t ∧ r.t ≤ 9223372036854775807)
theorem fit_zero : Fit zero := by unfold Fit zero; decide
def ok (r : Rg) : Bool := decide (1 ≤ r.f ∧ r.t ≤ 1099511627775 ∧ r.f ≤ r.t)
theorem ok_iff {r : Rg} : ok r = true ↔ 1 ≤ r.f ∧ r.t ≤ 1099511627775 ∧ r.f ≤ r.t := by simp [ok]
theorem ok_fit {r : Rg} (h : ok r = true) : Fit r := by have := ok_iff.1 h; unfold Fit; omega
/-- Place i is well behind the one ahead of it. -/
def okAt (l : List Rg) (i : Nat) : Bool := ok (l[i]?.getD zero) && (i == 0 || decide ((l[i - 1]?.getD zero).t < (l[i]?.getD zero).f - 1))
def rightTo (l : List Rg) (n : Nat) : Bool := (List.range n).all (okAt l)
def right (l : List Rg) : Bool := rightTo l l.length
theorem rightTo_succ (l : List Rg) (n : Nat) : rightTo l (n + 1) = (rightTo l n && okAt l n) := by simp [rightTo, List.range_succ]
theorem rightTo_iff (l : List Rg) (n : Nat) : rightTo l n = true ↔ ∀ i, i < n → okAt l i = true := by simp [rightTo]
theorem rightTo_no {l : List Rg} {n i : Nat} (hi : i < n) (h : okAt l i = false) : rightTo l n = false := by
  cases hq : rightTo l n with
  | false => rfl
  | true => have := (rightTo_iff l n).1 hq i hi; rw [h] at this; cases this
/-- Each is right, and they stand apart. -/
def R (l : List Rg) : Prop := (∀ r ∈ l, ok r = true) ∧ l.Pairwise (fun a b => a.t < b.f - 1)
theorem pair_of_steps : ∀ l : List Rg, (∀ r ∈ l, ok r = true) → (∀ i, i + 1 < l.length → (l[i]?.getD zero).t < (l[i + 1]?.getD zero).f - 1) → l.Pairwise (fun a b => a.t < b.f - 1)
  | [], _, _ => List.Pairwise.nil
  | [x], _, _ => by simp
  | x :: y :: t, ho, h => by
    have ih := pair_of_steps (y :: t) (fun r hr => ho r (by simp [hr])) (fun i hi => by have := h (i + 1) (by simpa using hi); simpa using this)
    have hxy := h 0 (by simp)
    simp at hxy
    refine List.pairwise_cons.2 ⟨fun z hz => ?_, ih⟩
    rcases List.mem_cons.1 hz with rfl | hz
    · exact hxy
    · have h1 := (List.pairwise_cons.1 ih).1 z hz
      have h2 := ok_iff.1 (ho y (by simp))
      omega
theorem right_iff (l : List Rg) : right l = true ↔ R l := by
  unfold right
  rw [rightTo_iff]
  constructor
  · intro h
    have ho : ∀ r ∈ l, ok r = true := fun r hr => by
      obtain ⟨i, hi, rfl⟩ := List.getElem_of_mem hr
      have := h i hi
      simp [okAt, hi] at this
      exact this.1
    refine ⟨ho, pair_of_steps l ho (fun i hi => ?_)⟩
    have := h (i + 1) hi
    simp only [okAt, Nat.add_sub_cancel, Bool.and_eq_true, Bool.or_eq_true, decide_eq_true_eq] at this
    rcases this.2 with h2 | h2
    · simp at h2
    · exact h2
  · rintro ⟨h1, h2⟩ i hi
    have hr := h1 l[i] (List.getElem_mem hi)
    unfold okAt
    simp only [Bool.and_eq_true, Bool.or_eq_true, decide_eq_true_eq]
    refine ⟨by simpa [hi] using hr, ?_⟩
    cases i with
    | zero => exact .inl rfl
    | succ i =>
      right
      have := List.pairwise_iff_getElem.1 h2 i (i + 1) (by omega) hi (Nat.lt_succ_self i)
      simpa [hi, show i < l.length by omega] using this
theorem R.nil : R [] := ⟨by simp, List.Pairwise.nil⟩
theorem R.cons {x : Rg} {l : List Rg} : R (x :: l) ↔ ok x = true ∧ (∀ y ∈ l, x.t < y.f - 1) ∧ R l := by
  unfold R
  rw [List.pairwise_cons]
  constructor
  · rintro ⟨h1, h2, h3⟩
    exact ⟨h1 x (by simp), h2, fun r hr => h1 r (by simp [hr]), h3⟩
  · rintro ⟨h1, h2, h3, h4⟩
    refine ⟨fun r hr => ?_, h2, h4⟩
    rcases List.mem_cons.1 hr with rfl | hr
    · exact h1
    · exact h3 r hr
theorem R.one {r : Rg} : R [r] ↔ ok r = true := by rw [R.cons]; simp [R.nil]
theorem right_one (r : Rg) : right [r] = ok r := by
  cases h : ok r with
  | true => rw [right_iff, R.one]; exact h
  | false =>
    cases hq : right [r] with
    | false => rfl
    | true => rw [right_iff, R.one, h] at hq; cases hq
/-- What is in a list. -/
def In (l : List Rg) (n : Int) : Prop := ∃ r ∈ l, r.f ≤ n ∧ n ≤ r.t
theorem In.nil {n : Int} : ¬ In [] n := by rintro ⟨r, hr, _⟩; cases hr
theorem In.cons {x : Rg} {l : List Rg} {n : Int} : In (x :: l) n ↔ (x.f ≤ n ∧ n ≤ x.t) ∨ In l n := by
  unfold In
  constructor
  · rintro ⟨r, hr, h⟩
    rcases List.mem_cons.1 hr with rfl | hr
    · exact .inl h
    · exact .inr ⟨r, hr, h⟩
  · rintro (h | ⟨r, hr, h⟩)
    · exact ⟨x, by simp, h⟩
    · exact ⟨r, by simp [hr], h⟩
theorem In.append {a b : List Rg} {n : Int} : In (a ++ b) n ↔ In a n ∨ In b n := by
  unfold In
  simp only [List.mem_append]
  constructor
  · rintro ⟨r, hr | hr, h⟩
    · exact .inl ⟨r, hr, h⟩
    · exact .inr ⟨r, hr, h⟩
  · rintro (⟨r, hr, h⟩ | ⟨r, hr, h⟩)
    · exact ⟨r, .inl hr, h⟩
    · exact ⟨r, .inr hr, h⟩
theorem In.bound {l : List Rg} (h : R l) {n : Int} (hn : In l n) : 1 ≤ n ∧ n ≤ 1099511627775 := by
  obtain ⟨r, hr, h1, h2⟩ := hn
  have := ok_iff.1 (h.1 r hr)
  omega
/-- A right list is told by what is in it. -/
theorem ext : ∀ {a b : List Rg}, R a → R b → (∀ n, In a n ↔ In b n) → a = b
  | [], [], _, _, _ => rfl
  | [], y :: t, _, hb, h => by
    obtain ⟨h1, _, _⟩ := R.cons.1 hb
    have := ok_iff.1 h1
    exact absurd ((h y.f).2 (In.cons.2 (.inl ⟨Int.le_refl _, this.2.2⟩))) In.nil
  | x :: s, [], ha, _, h => by
    obtain ⟨h1, _, _⟩ := R.cons.1 ha
    have := ok_iff.1 h1
    exact absurd ((h x.f).1 (In.cons.2 (.inl ⟨Int.le_refl _, this.2.2⟩))) In.nil
  | x :: s, y :: t, ha, hb, h => by
    obtain ⟨hx, hxs, hs⟩ := R.cons.1 ha
    obtain ⟨hy, hyt, ht⟩ := R.cons.1 hb
    have ox := ok_iff.1 hx
    have oy := ok_iff.1 hy
    have lowS : ∀ n, In s n → x.t + 1 < n := fun n ⟨r, hr, h1, _⟩ => by have := hxs r hr; omega
    have lowT : ∀ n, In t n → y.t + 1 < n := fun n ⟨r, hr, h1, _⟩ => by have := hyt r hr; omega
    have ef : x.f = y.f := by
      have h1 := (h x.f).1 (In.cons.2 (.inl ⟨Int.le_refl _, ox.2.2⟩))
      have h2 := (h y.f).2 (In.cons.2 (.inl ⟨Int.le_refl _, oy.2.2⟩))
      rcases In.cons.1 h1 with h1 | h1 <;> rcases In.cons.1 h2 with h2 | h2
      · omega
      · have := lowS _ h2; omega
      · have := lowT _ h1; omega
      · have := lowS _ h2; have := lowT _ h1; omega
    have et : x.t = y.t := by
      by_cases hlt : x.t < y.t
      · have h1 := (h (x.t + 1)).2 (In.cons.2 (.inl ⟨by omega, by omega⟩))
        rcases In.cons.1 h1 with h1 | h1
        · omega
        · have := lowS _ h1; omega
      · by_cases hgt : y.t < x.t
        · have h1 := (h (y.t + 1)).1 (In.cons.2 (.inl ⟨by omega, by omega⟩))
          rcases In.cons.1 h1 with h1 | h1
          · omega
          · have := lowT _ h1; omega
        · omega
    have e : x = y := Rg.eq_iff.2 ⟨ef, et⟩
    subst e
    have : s = t := ext hs ht (fun n => by
      constructor
      · intro hn
        rcases In.cons.1 ((h n).1 (In.cons.2 (.inr hn))) with h1 | h1
        · have := lowS _ hn; omega
        · exact h1
      · intro hn
        rcases In.cons.1 ((h n).2 (In.cons.2 (.inr hn))) with h1 | h1
        · have := lowT _ hn; omega
        · exact h1)
    rw [this]

-- asking
def hasIn (l : List Rg) (n : Int) : Bool := l.any (fun r => decide (r.f ≤ n) && decide (n ≤ r.t))
theorem hasIn_iff (l : List Rg) (n : Int) : hasIn l n = true ↔ In l n := by simp [hasIn, In]
def has (l : List Rg) (n : Int) : Bool := right l && hasIn l n
theorem has_iff {l : List Rg} (h : R l) (n : Int) : has l n = true ↔ In l n := by
  unfold has; rw [(right_iff l).2 h, Bool.true_and, hasIn_iff]
def sum : List Rg → Int
  | [] => 0
  | r :: l => (r.t - r.f + 1) + sum l
def count (l : List Rg) : Int := if right l = true then sum l else 0
def first (l : List Rg) : Int := if right l = true ∧ l ≠ [] ∧ (l[0]?.getD zero).f ≤ 1 then (l[0]?.getD zero).t else 0

-- adding
def mrg (r : Rg) : List Rg → List Rg
  | [] => [r]
  | x :: l => if x.f ≤ r.t + 1 then mrg ⟨min r.f x.f, max r.t x.t⟩ l else r :: x :: l
def ins (r : Rg) : List Rg → List Rg
  | [] => [r]
  | x :: l => if x.t < r.f - 1 then x :: ins r l else mrg r (x :: l)
def add (l : List Rg) (r : Rg) : List Rg := if right l = true ∧ ok r = true then ins r l else []
theorem mrg_spec : ∀ (l : List Rg) (r : Rg), R l → ok r = true → (∀ y ∈ l, r.f ≤ y.t + 1) →
    R (mrg r l) ∧ (∀ n, In (mrg r l) n ↔ (r.f ≤ n ∧ n ≤ r.t) ∨ In l n) ∧ (∀ y ∈ mrg r l, r.f ≤ y.f ∨ ∃ x ∈ l, x.f ≤ y.f)
  | [], r, _, hr, _ => by
    refine ⟨R.one.2 hr, fun n => ?_, fun y hy => ?_⟩
    · unfold mrg; rw [In.cons]
    · unfold mrg at hy; simp at hy; rw [hy]; exact .inl (Int.le_refl _)
  | x :: l, r, hl, hr, hle => by
    obtain ⟨hx, hxl, hlr⟩ := R.cons.1 hl
    have ox := ok_iff.1 hx
    have orr := ok_iff.1 hr
    have h0 := hle x (by simp)
    unfold mrg
    by_cases h : x.f ≤ r.t + 1
    · rw [if_pos h]
      have hm : ok ⟨min r.f x.f, max r.t x.t⟩ = true := ok_iff.2 ⟨by simp only []; omega, by simp only []; omega, by simp only []; omega⟩
      obtain ⟨h1, h2, h3⟩ := mrg_spec l ⟨min r.f x.f, max r.t x.t⟩ hlr hm (fun y hy => by have := hxl y hy; have := ok_iff.1 (hlr.1 y hy); simp only []; omega)
      refine ⟨h1, fun n => ?_, fun y hy => ?_⟩
      · rw [h2, In.cons]
        simp only []
        constructor
        · rintro (h | h)
          · by_cases hn : n ≤ r.t
            · by_cases hf : r.f ≤ n
              · exact .inl ⟨hf, hn⟩
              · exact .inr (.inl (by omega))
            · exact .inr (.inl (by omega))
          · exact .inr (.inr h)
        · rintro (h | h | h)
          · exact .inl (by omega)
          · exact .inl (by omega)
          · exact .inr h
      · rcases h3 y hy with h | ⟨z, hz, h⟩
        · simp only [] at h
          by_cases hq : r.f ≤ x.f
          · exact .inl (by omega)
          · exact .inr ⟨x, by simp, by omega⟩
        · exact .inr ⟨z, by simp [hz], h⟩
    · rw [if_neg h]
      refine ⟨R.cons.2 ⟨hr, fun y hy => ?_, hl⟩, fun n => In.cons, fun y hy => ?_⟩
      · rcases List.mem_cons.1 hy with rfl | hy
        · omega
        · have := hxl y hy; omega
      · rcases List.mem_cons.1 hy with rfl | hy
        · exact .inl (Int.le_refl _)
        · exact .inr ⟨y, hy, Int.le_refl _⟩
theorem ins_spec : ∀ (l : List Rg) (r : Rg), R l → ok r = true →
    R (ins r l) ∧ (∀ n, In (ins r l) n ↔ (r.f ≤ n ∧ n ≤ r.t) ∨ In l n) ∧ (∀ y ∈ ins r l, r.f ≤ y.f ∨ ∃ x ∈ l, x.f ≤ y.f)
  | [], r, _, hr => by
    refine ⟨R.one.2 hr, fun n => ?_, fun y hy => ?_⟩
    · unfold ins; rw [In.cons]
    · unfold ins at hy; simp at hy; rw [hy]; exact .inl (Int.le_refl _)
  | x :: l, r, hl, hr => by
    obtain ⟨hx, hxl, hlr⟩ := R.cons.1 hl
    have ox := ok_iff.1 hx
    have orr := ok_iff.1 hr
    unfold ins
    by_cases h : x.t < r.f - 1
    · rw [if_pos h]
      obtain ⟨h1, h2, h3⟩ := ins_spec l r hlr hr
      refine ⟨R.cons.2 ⟨hx, fun y hy => ?_, h1⟩, fun n => ?_, fun y hy => ?_⟩
      · rcases h3 y hy with h4 | ⟨z, hz, h4⟩
        · omega
        · have := hxl z hz; omega
      · rw [In.cons, h2, In.cons]
        constructor
        · rintro (h | h | h)
          · exact .inr (.inl h)
          · exact .inl h
          · exact .inr (.inr h)
        · rintro (h | h | h)
          · exact .inr (.inl h)
          · exact .inl h
          · exact .inr (.inr h)
      · rcases List.mem_cons.1 hy with rfl | hy
        · exact .inr ⟨y, by simp, Int.le_refl _⟩
        · rcases h3 y hy with h4 | ⟨z, hz, h4⟩
          · exact .inl h4
          · exact .inr ⟨z, by simp [hz], h4⟩
    · rw [if_neg h]
      exact mrg_spec (x :: l) r hl hr (fun y hy => by
        rcases List.mem_cons.1 hy with rfl | hy
        · omega
        · have := hxl y hy; have := ok_iff.1 (hlr.1 y hy); omega)
theorem add_R {l : List Rg} {r : Rg} (hl : R l) (hr : ok r = true) : R (add l r) := by
  unfold add; rw [if_pos ⟨(right_iff l).2 hl, hr⟩]; exact (ins_spec l r hl hr).1
theorem add_in {l : List Rg} {r : Rg} (hl : R l) (hr : ok r = true) (n : Int) : In (add l r) n ↔ (r.f ≤ n ∧ n ≤ r.t) ∨ In l n := by
  unfold add; rw [if_pos ⟨(right_iff l).2 hl, hr⟩]; exact (ins_spec l r hl hr).2.1 n
theorem mrg_len : ∀ (l : List Rg) (r : Rg), (mrg r l).length ≤ l.length + 1
  | [], r => by simp [mrg]
  | x :: l, r => by
    unfold mrg
    split
    · have := mrg_len l ⟨min r.f x.f, max r.t x.t⟩; simp; omega
    · simp
theorem ins_len : ∀ (l : List Rg) (r : Rg), (ins r l).length ≤ l.length + 1
  | [], r => by simp [ins]
  | x :: l, r => by
    unfold ins
    split
    · have := ins_len l r; simp; omega
    · exact mrg_len (x :: l) r
theorem add_len (l : List Rg) (r : Rg) : (add l r).length ≤ l.length + 1 := by
  unfold add; split
  · exact ins_len l r
  · simp
-- lists of numbers
def ofTo (l : List Int) : List Rg := l.foldl (fun acc n => if 1 ≤ n ∧ n ≤ 1099511627775 then add acc ⟨n, n⟩ else acc) []
theorem ofTo_snoc (l : List Int) (n : Int) : ofTo (l ++ [n]) = if 1 ≤ n ∧ n ≤ 1099511627775 then add (ofTo l) ⟨n, n⟩ else ofTo l := by simp [ofTo, List.foldl_append]
theorem ofTo_fold (l : List Int) : ∀ acc, R acc → R (l.foldl (fun acc n => if 1 ≤ n ∧ n ≤ 1099511627775 then add acc ⟨n, n⟩ else acc) acc) ∧
    ∀ m, In (l.foldl (fun acc n => if 1 ≤ n ∧ n ≤ 1099511627775 then add acc ⟨n, n⟩ else acc) acc) m ↔ In acc m ∨ (m ∈ l ∧ 1 ≤ m ∧ m ≤ 1099511627775) := by
  induction l with
  | nil => intro acc h; exact ⟨h, fun m => by simp⟩
  | cons n t ih =>
    intro acc h
    rw [List.foldl_cons]
    by_cases hn : 1 ≤ n ∧ n ≤ 1099511627775
    · rw [if_pos hn]
      have hk : ok ⟨n, n⟩ = true := ok_iff.2 ⟨hn.1, hn.2, Int.le_refl _⟩
      obtain ⟨h1, h2⟩ := ih (add acc ⟨n, n⟩) (add_R h hk)
      refine ⟨h1, fun m => ?_⟩
      rw [h2, add_in h hk]
      simp only [List.mem_cons]
      constructor
      · rintro ((h | h) | h)
        · exact .inr ⟨.inl (by omega), by omega⟩
        · exact .inl h
        · exact .inr ⟨.inr h.1, h.2⟩
      · rintro (h | ⟨h | h, h3⟩)
        · exact .inl (.inr h)
        · exact .inl (.inl (by omega))
        · exact .inr ⟨h, h3⟩
    · rw [if_neg hn]
      obtain ⟨h1, h2⟩ := ih acc h
      refine ⟨h1, fun m => ?_⟩
      rw [h2]
      simp only [List.mem_cons]
      constructor
      · rintro (h | h)
        · exact .inl h
        · exact .inr ⟨.inr h.1, h.2⟩
      · rintro (h | ⟨h | h, h3⟩)
        · exact .inl h
        · exact absurd h3 (by rw [h]; exact hn)
        · exact .inr ⟨h, h3⟩
theorem ofTo_R (l : List Int) : R (ofTo l) := (ofTo_fold l [] R.nil).1
theorem ofTo_in (l : List Int) (m : Int) : In (ofTo l) m ↔ m ∈ l ∧ 1 ≤ m ∧ m ≤ 1099511627775 := by
  rw [show ofTo l = l.foldl (fun acc n => if 1 ≤ n ∧ n ≤ 1099511627775 then add acc ⟨n, n⟩ else acc) [] from rfl, (ofTo_fold l [] R.nil).2]
  simp [In.nil]
theorem ofTo_eq {a b : List Int} (h : ∀ x, x ∈ a ↔ x ∈ b) : ofTo a = ofTo b := ext (ofTo_R a) (ofTo_R b) (fun n => by rw [ofTo_in, ofTo_in, h])
-- joining
def joinTo (a b : List Rg) : List Rg := b.foldl add a
def join (a b : List Rg) : List Rg := if right a = true ∧ right b = true then joinTo a b else []
theorem joinTo_snoc (a b : List Rg) (r : Rg) : joinTo a (b ++ [r]) = add (joinTo a b) r := by simp [joinTo, List.foldl_append]
theorem joinTo_spec (b : List Rg) : ∀ a, R a → (∀ r ∈ b, ok r = true) → R (joinTo a b) ∧ ∀ n, In (joinTo a b) n ↔ In a n ∨ In b n := by
  induction b with
  | nil => intro a h _; exact ⟨h, fun n => by simp [joinTo, In.nil]⟩
  | cons r t ih =>
    intro a h ho
    have hr := ho r (by simp)
    obtain ⟨h1, h2⟩ := ih (add a r) (add_R h hr) (fun x hx => ho x (by simp [hx]))
    refine ⟨h1, fun n => ?_⟩
    show In (joinTo (add a r) t) n ↔ _
    rw [h2, add_in h hr, In.cons]
    constructor
    · rintro ((h | h) | h)
      · exact .inr (.inl h)
      · exact .inl h
      · exact .inr (.inr h)
    · rintro (h | h | h)
      · exact .inl (.inr h)
      · exact .inl (.inl h)
      · exact .inr h
theorem join_R {a b : List Rg} (ha : R a) (hb : R b) : R (join a b) := by
  unfold join; rw [if_pos ⟨(right_iff a).2 ha, (right_iff b).2 hb⟩]; exact (joinTo_spec b a ha hb.1).1
theorem join_in {a b : List Rg} (ha : R a) (hb : R b) (n : Int) : In (join a b) n ↔ In a n ∨ In b n := by
  unfold join; rw [if_pos ⟨(right_iff a).2 ha, (right_iff b).2 hb⟩]; exact (joinTo_spec b a ha hb.1).2 n
theorem join_one (l : List Rg) (r : Rg) : join l [r] = add l r := by
  unfold join add
  rw [right_one]
  by_cases h : right l = true ∧ ok r = true
  · rw [if_pos h, if_pos h]; show add l r = _; unfold add; rw [if_pos h]
  · rw [if_neg h, if_neg h]
-- taking away
def lo (o r : Rg) : List Rg := if o.f ≤ min o.t (r.f - 1) then [⟨o.f, min o.t (r.f - 1)⟩] else []
def hi (o r : Rg) : List Rg := if max o.f (r.t + 1) ≤ o.t then [⟨max o.f (r.t + 1), o.t⟩] else []
def sub1 (l : List Rg) (r : Rg) : List Rg := l.flatMap (fun o => lo o r ++ hi o r)
def subTo (a b : List Rg) : List Rg := b.foldl sub1 a
def minus (a b : List Rg) : List Rg := if right a = true ∧ right b = true then subTo a b else []
theorem subTo_snoc (a b : List Rg) (r : Rg) : subTo a (b ++ [r]) = sub1 (subTo a b) r := by simp [subTo, List.foldl_append]
theorem lohi_in (o r : Rg) (hr : r.f ≤ r.t) (n : Int) : In (lo o r ++ hi o r) n ↔ (o.f ≤ n ∧ n ≤ o.t) ∧ ¬ (r.f ≤ n ∧ n ≤ r.t) := by
  rw [In.append]
  unfold lo hi
  split <;> split <;> simp only [In.cons, In.nil, or_false, false_or]
  · omega
  · omega
  · omega
  · exact ⟨fun h => h.elim, fun h => by omega⟩
theorem lohi_R (o r : Rg) (ho : ok o = true) (hr : ok r = true) : R (lo o r ++ hi o r) ∧ ∀ y ∈ lo o r ++ hi o r, o.f ≤ y.f ∧ y.t ≤ o.t := by
  have h1 := ok_iff.1 ho
  have h2 := ok_iff.1 hr
  unfold lo hi
  split <;> split
  · refine ⟨R.cons.2 ⟨ok_iff.2 ⟨by simp only []; omega, by simp only []; omega, by simp only []; omega⟩, fun y hy => ?_, R.one.2 (ok_iff.2 ⟨by simp only []; omega, by simp only []; omega, by simp only []; omega⟩)⟩, fun y hy => ?_⟩
    · simp at hy; rw [hy]; simp only []; omega
    · simp at hy
      rcases hy with rfl | rfl <;> simp only [] <;> omega
  · refine ⟨R.one.2 (ok_iff.2 ⟨by simp only []; omega, by simp only []; omega, by simp only []; omega⟩), fun y hy => ?_⟩
    simp at hy; rw [hy]; simp only []; omega
  · refine ⟨R.one.2 (ok_iff.2 ⟨by simp only []; omega, by simp only []; omega, by simp only []; omega⟩), fun y hy => ?_⟩
    simp at hy; rw [hy]; simp only []; omega
  · exact ⟨R.nil, by simp⟩
theorem sub1_spec : ∀ (l : List Rg) (r : Rg), R l → ok r = true → R (sub1 l r) ∧ (∀ n, In (sub1 l r) n ↔ In l n ∧ ¬ (r.f ≤ n ∧ n ≤ r.t)) ∧ ∀ y ∈ sub1 l r, ∃ x ∈ l, x.f ≤ y.f ∧ y.t ≤ x.t
  | [], r, _, _ => by
    refine ⟨R.nil, fun n => ?_, by simp [sub1]⟩
    simp [sub1, In.nil]
  | o :: l, r, hl, hr => by
    obtain ⟨ho, hol, hlr⟩ := R.cons.1 hl
    obtain ⟨h1, h2, h3⟩ := sub1_spec l r hlr hr
    obtain ⟨k1, k2⟩ := lohi_R o r ho hr
    have e : sub1 (o :: l) r = (lo o r ++ hi o r) ++ sub1 l r := by simp [sub1]
    rw [e]
    refine ⟨⟨fun y hy => ?_, List.pairwise_append.2 ⟨k1.2, h1.2, fun y hy z hz => ?_⟩⟩, fun n => ?_, fun y hy => ?_⟩
    · rcases List.mem_append.1 hy with hy | hy
      · exact k1.1 y hy
      · exact h1.1 y hy
    · have := k2 y hy
      obtain ⟨x, hx, hxz⟩ := h3 z hz
      have := hol x hx
      omega
    · rw [In.append, lohi_in o r (ok_iff.1 hr).2.2, h2, In.cons]
      constructor
      · rintro (⟨h, h'⟩ | ⟨h, h'⟩)
        · exact ⟨.inl h, h'⟩
        · exact ⟨.inr h, h'⟩
      · rintro ⟨h | h, h'⟩
        · exact .inl ⟨h, h'⟩
        · exact .inr ⟨h, h'⟩
    · rcases List.mem_append.1 hy with hy | hy
      · exact ⟨o, by simp, k2 y hy⟩
      · obtain ⟨x, hx, h⟩ := h3 y hy
        exact ⟨x, by simp [hx], h⟩
theorem subTo_spec (b : List Rg) : ∀ a, R a → (∀ r ∈ b, ok r = true) → R (subTo a b) ∧ ∀ n, In (subTo a b) n ↔ In a n ∧ ¬ In b n := by
  induction b with
  | nil => intro a h _; exact ⟨h, fun n => by simp [subTo, In.nil]⟩
  | cons r t ih =>
    intro a h ho
    obtain ⟨h1, h2, _⟩ := sub1_spec a r h (ho r (by simp))
    obtain ⟨h3, h4⟩ := ih (sub1 a r) h1 (fun x hx => ho x (by simp [hx]))
    refine ⟨h3, fun n => ?_⟩
    show In (subTo (sub1 a r) t) n ↔ _
    rw [h4, h2, In.cons]
    constructor
    · rintro ⟨⟨h, h'⟩, h''⟩
      exact ⟨h, fun hq => hq.elim h' h''⟩
    · rintro ⟨h, h'⟩
      exact ⟨⟨h, fun hq => h' (.inl hq)⟩, fun hq => h' (.inr hq)⟩
theorem minus_R {a b : List Rg} (ha : R a) (hb : R b) : R (minus a b) := by
  unfold minus; rw [if_pos ⟨(right_iff a).2 ha, (right_iff b).2 hb⟩]; exact (subTo_spec b a ha hb.1).1
theorem minus_in {a b : List Rg} (ha : R a) (hb : R b) (n : Int) : In (minus a b) n ↔ In a n ∧ ¬ In b n := by
  unfold minus; rw [if_pos ⟨(right_iff a).2 ha, (right_iff b).2 hb⟩]; exact (subTo_spec b a ha hb.1).2 n
theorem sub1_len (l : List Rg) (r : Rg) : (sub1 l r).length ≤ 2 * l.length := by
  induction l with
  | nil => simp [sub1]
  | cons o t ih =>
    have e : sub1 (o :: t) r = (lo o r ++ hi o r) ++ sub1 t r := by simp [sub1]
    have h1 : (lo o r).length ≤ 1 := by unfold lo; split <;> simp
    have h2 : (hi o r).length ≤ 1 := by unfold hi; split <;> simp
    rw [e]; simp only [List.length_append, List.length_cons]; omega
theorem sum_snoc (l : List Rg) (r : Rg) : sum (l ++ [r]) = sum l + (r.t - r.f + 1) := by
  induction l with
  | nil => simp [sum]
  | cons x t ih => simp only [List.cons_append, sum, ih]; omega
theorem sum_bound : ∀ (l : List Rg) (b : Int), R l → (∀ r ∈ l, b ≤ r.f) → b ≤ 1099511627776 → 0 ≤ sum l ∧ sum l ≤ 1099511627776 - b
  | [], b, _, _, hb => by simp [sum]; omega
  | x :: l, b, h, hl, hb => by
    obtain ⟨hx, hxl, hr⟩ := R.cons.1 h
    have ox := ok_iff.1 hx
    have h1 := hl x (by simp)
    obtain ⟨h2, h3⟩ := sum_bound l (x.t + 1) hr (fun r hr' => by have := hxl r hr'; omega) (by omega)
    simp only [sum]; omega
theorem R.take {l : List Rg} (h : R l) (k : Nat) : R (l.take k) := ⟨fun r hr => h.1 r (List.mem_of_mem_take hr), h.2.sublist (List.take_sublist k l)⟩
theorem sum_le {l : List Rg} (h : R l) : 0 ≤ sum l ∧ sum l ≤ 1099511627775 := by
  have := sum_bound l 1 h (fun r hr => (ok_iff.1 (h.1 r hr)).1) (by omega)
  omega
theorem ins_at (r : Rg) : ∀ (l : List Rg) (k : Nat), (∀ j, j < k → (l[j]?.getD zero).t < r.f - 1) → k ≤ l.length → (k = l.length ∨ ¬ ((l[k]?.getD zero).t < r.f - 1)) → ins r l = l.take k ++ mrg r (l.drop k)
  | [], k, _, hk, _ => by simp at hk; subst hk; rfl
  | x :: t, 0, _, _, h => by
    rcases h with h | h
    · simp at h
    · simp at h
      unfold ins
      rw [if_neg (by omega)]
      rfl
  | x :: t, k + 1, hl, hk, h => by
    have h0 := hl 0 (by omega)
    simp at h0
    unfold ins
    rw [if_pos h0, ins_at r t k (fun j hj => by have := hl (j + 1) (by omega); simpa using this) (by simpa using hk) (by simpa using h)]
    rfl
theorem mrg_in {r d : Rg} {t : List Rg} (h : d.f ≤ r.t + 1) : mrg r (d :: t) = mrg ⟨min r.f d.f, max r.t d.t⟩ t := by rw [mrg, if_pos h]
theorem mrg_out {r d : Rg} {t : List Rg} (h : ¬ d.f ≤ r.t + 1) : mrg r (d :: t) = r :: d :: t := by rw [mrg, if_neg h]
theorem mrg_nil (r : Rg) : mrg r [] = [r] := rfl
end SpanMath
