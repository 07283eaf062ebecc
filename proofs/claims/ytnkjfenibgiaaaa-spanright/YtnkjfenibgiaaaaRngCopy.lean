/-
  Ranges that are copied one behind another into a row that was made.
-/
import Derived.Test.YtnkjfenibgiaaaaRngBlk
import Derived.Test.YtnkjfenibgiaaaaRngStep
import Derived.Laws.CopyRow
namespace Go.Proofs.Ytnkjfenibgiaaaa
open Go.RowKit NumMath
open SpanMath (Rg)
set_option maxRecDepth 100000
set_option linter.unusedVariables false
set_option linter.unusedSimpArgs false

theorem made_arrG {w : World} {base g n : Nat} {xs : List Value} (h : w.ownsRow base 24 2 (.slice (some ⟨g, 0, none⟩) n n) n xs) : Arr w g 24 xs ∧ xs.length = n * 2 := by
  refine ⟨?_, h.1⟩
  rcases h.2 with ⟨h', _⟩ | ⟨g', cap', cur, h', _, hg, _, _, hcs, htake⟩
  · simp at h'
  · simp only [Value.slice.injEq, Option.some.injEq, Addr.mk.injEq, and_true, true_and] at h'
    obtain ⟨rfl, rfl⟩ := h'
    have e : cur.toList = xs := by rw [← htake, List.take_of_length_le (by simp [hcs])]
    unfold Arr
    rw [hg, ← e]
theorem run_copy_rngs (w : World) (ty : TypeId) (g o dLen dCap n c : Nat) (ad : Addr) (es : List Rg) (hn : n = es.length) (hle : n ≤ dLen) (cur : List Value) (hA : Arr w g 24 cur) (hr : GRow w (some ad) es) (hfit : o + n * 2 ≤ cur.length) :
    (Builtin.copy_ #[22, 22] ty #[.slice (some ⟨g, o, none⟩) dLen dCap, .slice (some ad) n c]).run Try.prog w = .ok (.int .i64 (n : Int)) (w.setRow g (cur.take o ++ flatG es ++ cur.drop (o + n * 2)).toArray) := by
  subst hn
  obtain ⟨i0, hi, hz0, hz1, hz2⟩ := info_parts infoRg
  have hf := run_firstCells_some (P := Try.prog) w i0.size es.length ad es.length c (flatG es) (by rw [flatG_len, hz1]) (hr.news ad rfl)
  have hst := run_storeCells_at Try.prog g o 24 (flatG es) 0 cur.toArray w hA (by rw [flatG_len]; simpa using hfit) (flatG_one es)
  simp only [Nat.add_zero, flatG_len] at hst
  rw [hz1] at hf
  have hmin : Nat.min es.length dLen = es.length := Nat.min_eq_left hle
  simp [Builtin.copy_, run_underlying Try.underlying22, Builtin.lenOf, sizeOf, typeInfo, hi, hz1, hmin, hf, hst]
  rfl
/-- The first copy. -/
theorem copy_first {w : World} {g n1 N : Nat} {Z : List Value} {a1 : Option Addr} {c1 : Nat} {xs : List Rg} (ty : TypeId) (hn : n1 = xs.length) (hle : n1 ≤ N) (hA : Arr w g 24 Z) (hZ : Z.length = N * 2) (hr : GRow w a1 xs) (hnil : a1 = none → c1 = 0) (hc : n1 ≤ c1) :
    (Builtin.copy_ #[22, 22] ty #[.slice (some ⟨g, 0, none⟩) N N, .slice a1 n1 c1]).run Try.prog w = .ok (.int .i64 (n1 : Int)) (w.setRow g (flatG xs ++ Z.drop (n1 * 2)).toArray) := by
  cases a1 with
  | some ad =>
    have h := run_copy_rngs w ty g 0 N N n1 c1 ad xs hn hle Z hA hr (by omega)
    simpa using h
  | none =>
    have h0 := hnil rfl
    subst h0
    obtain rfl : n1 = 0 := by omega
    obtain rfl : xs = [] := List.eq_nil_of_length_eq_zero hn.symm
    have h := run_copy_nil (P := Try.prog) w 22 22 ty 24 ⟨g, 0, none⟩ N N Try.underlying22 (by kernel_rfl)
    have e : w.setRow g (flatG [] ++ Z.drop (0 * 2)).toArray = w := by
      rw [flatG_nil, Nat.zero_mul, List.drop_zero, List.nil_append]
      exact setRow_self w g Z.toArray 24 (0, 0) hA
    rw [e]
    simpa [goInt] using h
/-- The second copy, behind the first. -/
theorem copy_second {w : World} {g n1 n2 N : Nat} {Z : List Value} {a2 : Option Addr} {c2 : Nat} {xs ys : List Rg} (ty : TypeId) (hn1 : n1 = xs.length) (hn2 : n2 = ys.length) (hN : N = n1 + n2) (hA : Arr w g 24 (flatG xs ++ Z)) (hZ : Z.length = n2 * 2) (hr : GRow w a2 ys) (hnil : a2 = none → c2 = 0) (hc : n2 ≤ c2) :
    (Builtin.copy_ #[22, 22] ty #[.slice (if N = n1 then some ⟨g, 0, none⟩ else some ⟨g, 0 + n1 * 2, none⟩) (N - n1) (N - n1), .slice a2 n2 c2]).run Try.prog w = .ok (.int .i64 (n2 : Int)) (w.setRow g (flatG (xs ++ ys)).toArray) := by
  have hself : w.setRow g (flatG xs ++ Z).toArray = w := setRow_self w g _ 24 (0, 0) hA
  by_cases h0 : n2 = 0
  · obtain rfl : ys = [] := List.eq_nil_of_length_eq_zero (by omega)
    obtain rfl : Z = [] := List.eq_nil_of_length_eq_zero (by omega)
    rw [if_pos (by omega)]
    rw [List.append_nil] at hself hA ⊢
    rw [hself]
    cases a2 with
    | some ad =>
      have h := run_copy_rngs w ty g 0 (N - n1) (N - n1) n2 c2 ad [] hn2 (by omega) (flatG xs) hA hr (by simp; omega)
      rw [h, h0]
      simp [flatG_nil, hself]
    | none =>
      have h1 := hnil rfl
      subst h1 h0
      have h := run_copy_nil (P := Try.prog) w 22 22 ty 24 ⟨g, 0, none⟩ (N - n1) (N - n1) Try.underlying22 (by kernel_rfl)
      simpa [goInt] using h
  · rw [if_neg (by omega)]
    cases a2 with
    | none => have h1 := hnil rfl; omega
    | some ad =>
      have h := run_copy_rngs w ty g (0 + n1 * 2) (N - n1) (N - n1) n2 c2 ad ys hn2 (by omega) (flatG xs ++ Z) hA hr (by rw [List.length_append, flatG_len, hZ]; omega)
      have e : (flatG xs ++ Z).take (0 + n1 * 2) ++ flatG ys ++ (flatG xs ++ Z).drop (0 + n1 * 2 + n2 * 2) = flatG (xs ++ ys) := by
        rw [Nat.zero_add, hn1, ← flatG_len xs, List.take_left, ← List.drop_drop, List.drop_left, List.drop_eq_nil_of_le (by omega), List.append_nil, flatG_append]
      rw [e] at h
      exact h
end Go.Proofs.Ytnkjfenibgiaaaa
