/-
  What span.put makes of a list, in words of lists.
-/
import Derived.Test.YtnkjfenibgiaaaaFnRgP
namespace Go.Proofs.Ytnkjfenibgiaaaa
open Go.RowKit NumMath
open SpanMath (Rg)
set_option maxRecDepth 100000
set_option linter.unusedVariables false
set_option linter.unusedSimpArgs false

theorem put_own (ds : List Rg) (r : Rg) (base : Nat) (w : World) (v : Value) (hO : GOwn w base v ds) (hb : base ≤ w.heap.size) (hlim : ds.length ≤ 1099511627776) (hok : ∀ x ∈ ds, SpanMath.ok x = true) (hr : SpanMath.ok r = true) :
    Calls Try.prog 32 #[v, .agg #[.int .i64 r.f, .int .i64 r.t]] w fun e w' => ∃ v', e = .returned v' ∧ GOwn w' base v' (SpanMath.putM ds r) ∧ Below base w w' := by
  rcases List.eq_nil_or_concat ds with rfl | ⟨A, x, rfl⟩
  · exact put_app_nil_own r base w v hO hb
  · rw [List.concat_eq_append] at *
    have hx := hok x (by simp)
    rw [SpanMath.putM_snoc]
    by_cases hxr : x.t + 1 < r.f
    · rw [if_pos hxr]
      exact put_app_snoc_own A x r base w v hO hb (by simp at hlim; omega) hx hr hxr
    · rw [if_neg hxr]
      rcases own_blkG hO with ⟨_, hnil⟩ | ⟨g, cap, rest, rfl, hg, hc, hm, hA, hl⟩
      · exact absurd hnil (by simp)
      · rw [List.length_append, List.length_singleton] at hc ⊢
        refine (put_store A x r rest g cap base w hg hA hc hm hx hr hxr).mono ?_
        rintro e w' ⟨rfl, hA', hB⟩
        refine ⟨_, rfl, ?_, hB⟩
        have hl' : (flatG (A ++ [⟨x.f, max x.t r.t⟩]) ++ rest).length = cap * 2 := by
          rw [List.length_append, flatG_len] at hl ⊢; simpa using hl
        have := blk_ownG (base := base) hg hA' hl' (by simpa using hc) hm
        rw [List.length_append, List.length_singleton] at this
        exact this
theorem put_blk (s js : List Rg) (r : Rg) (g base : Nat) (w : World) (hbase : base ≤ g) (hA : Arr w g 24 (flatG (js ++ s.drop js.length))) (hlt : js.length < s.length) (hm : s.length ≤ maxLen) (hok : ∀ x ∈ js, SpanMath.ok x = true) (hr : SpanMath.ok r = true) :
    Calls Try.prog 32 #[.slice (some ⟨g, 0, none⟩) js.length s.length, .agg #[.int .i64 r.f, .int .i64 r.t]] w fun e w' => e = .returned (.slice (some ⟨g, 0, none⟩) (SpanMath.putM js r).length s.length) ∧ Arr w' g 24 (flatG (SpanMath.putM js r ++ s.drop (SpanMath.putM js r).length)) ∧ Below base w w' := by
  have hA' := hA
  rw [flatG_append] at hA'
  have hl : (flatG js ++ flatG (s.drop js.length)).length = s.length * 2 := by
    rw [List.length_append, flatG_len, flatG_len, List.length_drop]; omega
  have hdrop : ∀ k, (flatG (s.drop k)).drop 2 = flatG (s.drop (k + 1)) := fun k => by
    by_cases hk : k < s.length
    · rw [List.drop_eq_getElem_cons hk, flatG_cons]; rfl
    · have e0 : s.drop k = [] := List.drop_eq_nil_of_le (by omega)
      have e1 : s.drop (k + 1) = [] := List.drop_eq_nil_of_le (by omega)
      rw [e0, e1]; rfl
  rcases List.eq_nil_or_concat js with rfl | ⟨A, x, rfl⟩
  · refine (put_app_nil_blk r _ g s.length base w hbase hA' hl (by simpa using hlt) hm).mono ?_
    rintro e w' ⟨rfl, h1, h2⟩
    refine ⟨rfl, ?_, h2⟩
    rw [hdrop] at h1
    rw [SpanMath.putM_nil, flatG_append]; exact h1
  · rw [List.concat_eq_append] at *
    have hx := hok x (by simp)
    have e1 : (A ++ [x]).length = A.length + 1 := by simp
    rw [SpanMath.putM_snoc]
    rw [e1] at hlt hA' hl ⊢
    by_cases hxr : x.t + 1 < r.f
    · rw [if_pos hxr]
      refine (put_app_snoc_blk A x r _ g s.length base w hbase hA' hl hlt hm hx hr hxr).mono ?_
      rintro e w' ⟨rfl, h1, h2⟩
      have e2 : (A ++ [x] ++ [r]).length = A.length + 1 + 1 := by simp
      rw [e2]
      refine ⟨rfl, ?_, h2⟩
      rw [hdrop] at h1
      rw [flatG_append]; exact h1
    · rw [if_neg hxr]
      refine (put_store A x r _ g s.length base w hbase hA' (by omega) hm hx hr hxr).mono ?_
      rintro e w' ⟨rfl, h1, h2⟩
      have e2 : (A ++ [(⟨x.f, max x.t r.t⟩ : Rg)]).length = A.length + 1 := by simp
      rw [e2]
      refine ⟨rfl, ?_, h2⟩
      rw [flatG_append]; exact h1
end Go.Proofs.Ytnkjfenibgiaaaa
