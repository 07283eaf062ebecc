/-
  What the laws ask of package span: lists of ranges in, lists of ranges out.
-/
import Derived.Test.YtnkjfenibgiaaaaFnRgM
import Derived.Test.YtnkjfenibgiaaaaFnRgB
import Derived.Test.YtnkjfenibgiaaaaFnRgH
import Derived.Test.YtnkjfenibgiaaaaFnRgO
namespace Go.Proofs.Ytnkjfenibgiaaaa
open Go.RowKit NumMath
open SpanMath (Rg)
set_option maxRecDepth 100000
set_option linter.unusedVariables false

theorem spanRight_any (v : Value) (xs : List Rg) (w : World) (h : Rngs w v xs) (hf : ∀ r ∈ xs, SpanMath.Fit r) :
    Calls Try.prog 10 #[v] w fun e w' => e = .returned (.bool (SpanMath.right xs)) ∧ Below w.heap.size w w' := by
  obtain ⟨a, c, rfl, hr, hc, hm, hn⟩ := h
  exact rgRight_row a xs c w hr hc hm hf
theorem spanHas_any (v : Value) (xs : List Rg) (n : Int) (w : World) (h : Rngs w v xs) (hf : ∀ r ∈ xs, SpanMath.Fit r) (h0 : -9223372036854775808 ≤ n) (h1 : n ≤ 9223372036854775807) :
    Calls Try.prog 12 #[v, .int .i64 n] w fun e w' => e = .returned (.bool (SpanMath.has xs n)) ∧ Below w.heap.size w w' := by
  obtain ⟨a, c, rfl, hr, hc, hm, hn⟩ := h
  exact rgHas_row a xs c n w hr hc hm hf
theorem spanCount_any (v : Value) (xs : List Rg) (w : World) (h : Rngs w v xs) (hf : ∀ r ∈ xs, SpanMath.Fit r) :
    Calls Try.prog 14 #[v] w fun e w' => e = .returned (.int .i64 (SpanMath.count xs)) ∧ Below w.heap.size w w' := by
  obtain ⟨a, c, rfl, hr, hc, hm, hn⟩ := h
  exact rgCount_row a xs c w hr hc hm hf
theorem spanFirst_any (v : Value) (xs : List Rg) (w : World) (h : Rngs w v xs) (hf : ∀ r ∈ xs, SpanMath.Fit r) :
    Calls Try.prog 16 #[v] w fun e w' => e = .returned (.int .i64 (SpanMath.first xs)) ∧ Below w.heap.size w w' := by
  obtain ⟨a, c, rfl, hr, hc, hm, hn⟩ := h
  exact rgFirst_row a xs c w hr hc hm hf
theorem spanJoin_any (v1 v2 : Value) (xs ys : List Rg) (w : World) (h1 : Rngs w v1 xs) (h2 : Rngs w v2 ys) (hf1 : ∀ r ∈ xs, SpanMath.Fit r) (hf2 : ∀ r ∈ ys, SpanMath.Fit r) (hl1 : xs.length ≤ 1000000) (hl2 : ys.length ≤ 1000000) :
    Calls Try.prog 19 #[v1, v2] w fun e w' => ∃ v, e = .returned v ∧ Rngs w' v (SpanMath.join xs ys) ∧ Below w.heap.size w w' := by
  obtain ⟨a, c, rfl, hr, hc, hm, hn⟩ := h1
  obtain ⟨a2, c2, rfl, hr2, hc2, hm2, hn2⟩ := h2
  refine (rgJoin_row a a2 xs ys c c2 w hr hr2 hc hc2 hm hm2 hn hn2 hf1 hf2 (by omega) (by omega)).mono ?_
  rintro e w' ⟨v, rfl, hO, hb⟩
  exact ⟨v, rfl, hO.ranges, hb⟩
theorem spanMinus_any (v1 v2 : Value) (xs ys : List Rg) (w : World) (h1 : Rngs w v1 xs) (h2 : Rngs w v2 ys) (hf1 : ∀ r ∈ xs, SpanMath.Fit r) (hf2 : ∀ r ∈ ys, SpanMath.Fit r) (hl1 : xs.length ≤ 1000000) (hl2 : ys.length ≤ 1000000) :
    Calls Try.prog 21 #[v1, v2] w fun e w' => ∃ v, e = .returned v ∧ Rngs w' v (SpanMath.minus xs ys) ∧ Below w.heap.size w w' := by
  obtain ⟨a, c, rfl, hr, hc, hm, hn⟩ := h1
  obtain ⟨a2, c2, rfl, hr2, hc2, hm2, hn2⟩ := h2
  refine (rgMinus_row a a2 xs ys c c2 w hr hr2 hc hc2 hm hm2 hn hn2 hf1 hf2 (by omega) (by omega)).mono ?_
  rintro e w' ⟨v, rfl, hO, hb⟩
  exact ⟨v, rfl, hO.ranges, hb⟩
theorem spanAdd_any (v1 : Value) (xs : List Rg) (r : Rg) (w : World) (h1 : Rngs w v1 xs) (hf1 : ∀ r ∈ xs, SpanMath.Fit r) (hfr : SpanMath.Fit r) (hl1 : xs.length ≤ 1000000) :
    Calls Try.prog 23 #[v1, rgV r] w fun e w' => ∃ v, e = .returned v ∧ Rngs w' v (SpanMath.add xs r) ∧ Below w.heap.size w w' := by
  obtain ⟨a, c, rfl, hr, hc, hm, hn⟩ := h1
  refine (rgAdd_row a xs c r w hr hc hm hn hf1 hfr (by omega)).mono ?_
  rintro e w' ⟨v, rfl, hO, hb⟩
  exact ⟨v, rfl, hO.ranges, hb⟩
theorem spanOf_any (a : Option Addr) (zs : List Int) (cap : Nat) (w : World) (hr : Row .i64 w a zs) (hc : zs.length ≤ cap) (hm : cap ≤ maxLen) (hl : zs.length ≤ 1000000) :
    Calls Try.prog 24 #[.slice a zs.length cap] w fun e w' => ∃ v, e = .returned v ∧ Rngs w' v (SpanMath.ofTo zs) ∧ Below w.heap.size w w' := by
  refine (rgOf_row a zs cap w hr hc hm hl).mono ?_
  rintro e w' ⟨v, rfl, hO, hb⟩
  exact ⟨v, rfl, hO.ranges, hb⟩
end Go.Proofs.Ytnkjfenibgiaaaa
