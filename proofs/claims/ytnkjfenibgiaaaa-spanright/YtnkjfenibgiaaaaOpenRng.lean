/-
  A range, and a slice of ranges, that came in.
-/
import Derived.Test.YtnkjfenibgiaaaaRngRow
import Derived.Lib.SmallJoins
import Derived.Deep.Slices
import Derived.OpenShut
namespace Go.Proofs.Ytnkjfenibgiaaaa
open Go.RowKit Go.WideShapes Go.ChangeShapes Go.Deep
open SpanMath (Rg)
set_option maxRecDepth 100000
set_option linter.unusedVariables false
set_option linter.unusedSimpArgs false

theorem wf64g {z : Int} (h : (Lit.int .i64 z).wf = true) : -9223372036854775808 ≤ z ∧ z ≤ 9223372036854775807 := bounds_i64 h
theorem open_rg {H : Type} {enc : TypeId × Value → H} {w : World} {r : Reach} {b0 base : Nat} {sp : Nat → Bool} {held : Bool} {v : Value} {d : DataW H} {ps : List MemPlace}
    (hval : Value.okWide Try.prog w r b0 24 v) (h : DataW.Trod enc Try.prog w base sp held 24 v d ps) : ∃ s : Rg, v = rgV s ∧ SpanMath.Fit s := by
  obtain ⟨u0, u1, y0, y1, n, rfl, _, _, t0, t1⟩ := Go.Joins.open_agg2 Try.underlying24 (by kernel_rfl) (by kernel_rfl) hval h
  obtain ⟨z0, hz0, _, w0⟩ := DataW.trod_int Try.underlying2 t0
  obtain ⟨z1, hz1, _, w1⟩ := DataW.trod_int Try.underlying2 t1
  simp at hz0 hz1
  subst hz0 hz1
  exact ⟨⟨z0, z1⟩, rfl, wf64g w0, wf64g w1⟩
theorem rg_cells : Try.prog.cellsOf 24 = 2 := by kernel_rfl
theorem open_rgs {H : Type} {enc : TypeId × Value → H} {w : World} {base : Nat} {sp : Nat → Bool} {held : Bool} {a : Option Addr} {len cap : Nat} {d : DataW H} {ps : List MemPlace}
    (h : DataW.Trod enc Try.prog w base sp held 22 (.slice a len cap) d ps) : ∃ ss : List Rg, GRow w a ss ∧ ss.length = len ∧ len ≤ cap ∧ cap ≤ maxLen ∧ ((∀ s ∈ ss, SpanMath.Fit s) ∧ (a = none → cap = 0)) := by
  obtain ⟨fuel, hf⟩ := h
  rcases Go.Deep.open_slice Try.underlying22 hf with ⟨hcs, _⟩ | ⟨x, l, c, m, n, D, Pl, hcs, _, hl, hm, hmm, _, hx⟩
  · simp [Value.cells] at hcs
    obtain ⟨rfl, rfl, rfl⟩ := hcs
    exact ⟨[], .inl rfl, rfl, Nat.le_refl _, by decide, by simp, fun _ => rfl⟩
  · simp [Value.cells] at hcs
    obtain ⟨rfl, rfl, rfl⟩ := hcs
    have hlm : len ≤ m := by rw [hmm]; split <;> omega
    have each : ∀ i, i < len → ∃ s : Rg, (∀ j v, (rgL s)[j]? = some v → w.cell? (x.add (i * 2 + j)) = some v) ∧ SpanMath.Fit s := by
      intro i hi
      obtain ⟨cs', h1, h2⟩ := hx i (by omega)
      rw [rg_cells] at h1
      obtain ⟨_, hlen, hcell⟩ := World.cells?_some h1
      obtain ⟨ys, k, _, _, _, hyl, hf2⟩ := DataW.trod_struct Try.underlying24 h2
      match cs', hlen with
      | [v0, v1], _ =>
        have g0 := hf2 0 _ rfl
        have g1 := hf2 1 _ rfl
        match ys, hyl with
        | [y0, y1], _ =>
          simp [show Try.prog.cellsOf 2 = 1 by kernel_rfl, show Try.prog.cellsOf 2 = 1 by kernel_rfl] at g0 g1
          obtain ⟨z0, hz0, _, w0⟩ := DataW.trod_int Try.underlying2 g0
          obtain ⟨z1, hz1, _, w1⟩ := DataW.trod_int Try.underlying2 g1
          simp at hz0 hz1
          subst hz0 hz1
          refine ⟨⟨z0, z1⟩, ?_, wf64g w0, wf64g w1⟩
          intro j v hj
          have hj3 : j < 2 := by
            have := (List.getElem?_eq_some_iff.1 hj).1
            simpa [rgL] using this
          have := hcell j hj3
          rw [add_add] at this
          rw [this]
          exact hj
    obtain ⟨q, hq⟩ := @choose_lt Rg ⟨SpanMath.zero⟩ _ _ each
    refine ⟨(List.range len).map q, ?_, by simp, hl, hm, ?_, by simp⟩
    · by_cases h0 : len = 0
      · left; simp [h0]
      · right
        obtain ⟨b, off, spot⟩ := x
        have h1 := (hq 0 (by omega)).1 0 _ rfl
        have hspot : spot = none := by simpa [Addr.add] using World.cell?_spot h1
        subst hspot
        refine ⟨b, off, rfl, fun i hi => ?_⟩
        simp at hi
        intro j v hj
        have hg : ((List.range len).map q)[i]?.getD SpanMath.zero = q i := by simp [hi]
        rw [hg] at hj
        have h2 := (hq i hi).1 j v hj
        rw [Addr.add_lit] at h2
        rw [Nat.add_assoc]
        exact h2
    · intro s hs
      obtain ⟨i, hi, rfl⟩ := List.mem_map.1 hs
      exact (hq i (by simpa using hi)).2
end Go.Proofs.Ytnkjfenibgiaaaa
