/-
  What layer 10's laws share: small right lists.
-/
import Derived.Test.YtnkjfenibgiaaaaFnSpanF
import Derived.Test.YtnkjfenibgiaaaaFnSpanG
import Derived.Test.YtnkjfenibgiaaaaFnSpanS
import Derived.Test.YtnkjfenibgiaaaaSpanLaws
namespace Go.Proofs.Ytnkjfenibgiaaaa
open Go.RowKit NumMath
open SpanMath (Rg)
set_option maxRecDepth 100000
set_option linter.unusedVariables false
set_option linter.unusedSimpArgs false

/-- A right list of few ranges. -/
structure Sm (l : List Rg) : Prop where
  right : SpanMath.R l
  few : l.length ≤ 1000
theorem Sm.fit {l : List Rg} (h : Sm l) : ∀ r ∈ l, SpanMath.Fit r := fun r hr => SpanMath.ok_fit (h.right.1 r hr)
theorem Sm.many {l : List Rg} (h : Sm l) : l.length ≤ 1000000 := Nat.le_trans h.few (by decide)
theorem Sm.nil : Sm [] := ⟨SpanMath.R.nil, by simp⟩
/-- A right list that lies within 1000 numbers. -/
theorem sm_within {l : List Rg} (h : SpanMath.R l) (b : Int) (hs : ∀ n, SpanMath.In l n → b + 1 ≤ n ∧ n ≤ b + 1000) : Sm l := by
  refine ⟨h, ?_⟩
  have h1 := len_sum l h
  have h2 := SpanMath.sum_count b 1000 l h (fun r hr => by
    have o := SpanMath.ok_iff.1 (h.1 r hr)
    have hf := hs r.f ⟨r, hr, Int.le_refl _, o.2.2⟩
    have ht := hs r.t ⟨r, hr, o.2.2, Int.le_refl _⟩
    exact ⟨hf.1, by simpa using ht.2⟩)
  have h3 : (List.range 1000).countP (fun i : Nat => SpanMath.hasIn l (b + 1 + (i : Int))) ≤ 1000 := by
    have h4 := List.countP_le_length (p := fun i : Nat => SpanMath.hasIn l (b + 1 + (i : Int))) (l := List.range 1000)
    rw [List.length_range] at h4; exact h4
  omega
/-- One list is the other: then SameSpan says so. -/
theorem same_of {a b : List Rg} {v1 v2 : Value} (w : World) (h1 : Rngs w v1 a) (h2 : Rngs w v2 b) (e : a = b) (hs : Sm a) :
    Calls Try.prog 18 #[v1, v2] w fun r w' => r = .returned (.bool true) ∧ Below w.heap.size w w' := by
  subst e
  obtain ⟨a1, c1, rfl, hr1, hc1, hm1, _⟩ := h1
  obtain ⟨a2, c2, rfl, hr2, hc2, hm2, _⟩ := h2
  exact sameSpan_any a1 a2 c1 c2 a w hr1 hr2 hc1 hc2 hm1 hm2
/-- The bits' ranges, as a value. -/
theorem bits_rngs (x base : Int) (w : World) (hx : 0 ≤ x ∧ x ≤ 18446744073709551615) (hb : 0 ≤ base ∧ base ≤ 1099511627711) :
    Calls Try.prog 26 #[.int .u64 x, .int .i64 base] w fun e w' => ∃ v, e = .returned v ∧ Rngs w' v (SpanMath.B x base) ∧ Below w.heap.size w w' := by
  refine (bits_any x base w hx ⟨hb.1, by omega⟩).mono ?_
  rintro e w' ⟨v, rfl, ho, hbl⟩
  exact ⟨v, rfl, ho.ranges, hbl⟩
/-- Right lists of small numbers: what is made of them is one too. -/
structure Sl (l : List Rg) : Prop where
  right : SpanMath.R l
  low : ∀ n, SpanMath.In l n → 1 ≤ n ∧ n ≤ 1000
theorem Sl.sm {l : List Rg} (h : Sl l) : Sm l := sm_within h.right 0 (fun n hn => by have := h.low n hn; omega)
theorem Sl.fit {l : List Rg} (h : Sl l) : ∀ r ∈ l, SpanMath.Fit r := h.sm.fit
theorem Sl.many {l : List Rg} (h : Sl l) : l.length ≤ 1000000 := h.sm.many
theorem Sl.join {a b : List Rg} (ha : Sl a) (hb : Sl b) : Sl (SpanMath.join a b) := ⟨SpanMath.join_R ha.right hb.right, fun n hn => by
  rcases (SpanMath.join_in ha.right hb.right n).1 hn with h | h
  · exact ha.low n h
  · exact hb.low n h⟩
theorem Sl.minus {a b : List Rg} (ha : Sl a) (hb : Sl b) : Sl (SpanMath.minus a b) := ⟨SpanMath.minus_R ha.right hb.right, fun n hn => ha.low n ((SpanMath.minus_in ha.right hb.right n).1 hn).1⟩
theorem Sl.nil : Sl [] := ⟨SpanMath.R.nil, fun n hn => absurd hn SpanMath.In.nil⟩
theorem Sl.bits (x base : Int) (h0 : 0 ≤ base) (h1 : base ≤ 900) : Sl (SpanMath.B x base) := ⟨SpanMath.B_R _ _, fun n hn => by have := SpanMath.B_span h0 (by omega) hn; omega⟩
end Go.Proofs.Ytnkjfenibgiaaaa
