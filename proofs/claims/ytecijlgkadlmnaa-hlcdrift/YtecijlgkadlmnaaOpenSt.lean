/-
  A stamp, and a slice of stamps, that came in.
-/
import Derived.Test.YtecijlgkadlmnaaStRow
import Derived.Lib.SmallJoins
import Derived.Deep.Slices
import Derived.OpenShut
namespace Go.Proofs.Ytecijlgkadlmnaa
open Go.RowKit Go.WideShapes Go.ChangeShapes Go.Deep
open StMath (St)
set_option maxRecDepth 100000
set_option linter.unusedVariables false
set_option linter.unusedSimpArgs false

theorem wf64 {z : Int} (h : (Lit.int .i64 z).wf = true) : -9223372036854775808 ≤ z ∧ z ≤ 9223372036854775807 := bounds_i64 h
theorem open_st {H : Type} {enc : TypeId × Value → H} {w : World} {r : Reach} {b0 base : Nat} {sp : Nat → Bool} {held : Bool} {v : Value} {d : DataW H} {ps : List MemPlace}
    (hval : Value.okWide Try.prog w r b0 32 v) (h : DataW.Trod enc Try.prog w base sp held 32 v d ps) : ∃ s : St, v = stV s ∧ StMath.Fit s := by
  obtain ⟨u0, u1, u2, y0, y1, y2, n, rfl, _, _, t0, t1, t2⟩ := Go.Joins.open_agg3 Try.underlying32 (by kernel_rfl) (by kernel_rfl) hval h
  obtain ⟨z0, hz0, _, w0⟩ := DataW.trod_int Try.underlying2 t0
  obtain ⟨z1, hz1, _, w1⟩ := DataW.trod_int Try.underlying3 t1
  obtain ⟨z2, hz2, _, w2⟩ := DataW.trod_int Try.underlying3 t2
  simp at hz0 hz1 hz2
  subst hz0 hz1 hz2
  exact ⟨⟨z0, z1, z2⟩, rfl, wf64 w0, wf64 w1, wf64 w2⟩
theorem st_cells : Try.prog.cellsOf 32 = 3 := by kernel_rfl
theorem open_sts {H : Type} {enc : TypeId × Value → H} {w : World} {base : Nat} {sp : Nat → Bool} {held : Bool} {a : Option Addr} {len cap : Nat} {d : DataW H} {ps : List MemPlace}
    (h : DataW.Trod enc Try.prog w base sp held 64 (.slice a len cap) d ps) : ∃ ss : List St, SRow w a ss ∧ ss.length = len ∧ len ≤ cap ∧ cap ≤ maxLen ∧ ∀ s ∈ ss, StMath.Fit s := by
  obtain ⟨fuel, hf⟩ := h
  rcases Go.Deep.open_slice Try.underlying64 hf with ⟨hcs, _⟩ | ⟨x, l, c, m, n, D, Pl, hcs, _, hl, hm, hmm, _, hx⟩
  · simp [Value.cells] at hcs
    obtain ⟨rfl, rfl, rfl⟩ := hcs
    exact ⟨[], .inl rfl, rfl, Nat.le_refl _, by decide, by simp⟩
  · simp [Value.cells] at hcs
    obtain ⟨rfl, rfl, rfl⟩ := hcs
    have hlm : len ≤ m := by rw [hmm]; split <;> omega
    have each : ∀ i, i < len → ∃ s : St, (∀ j v, (stL s)[j]? = some v → w.cell? (x.add (i * 3 + j)) = some v) ∧ StMath.Fit s := by
      intro i hi
      obtain ⟨cs', h1, h2⟩ := hx i (by omega)
      rw [st_cells] at h1
      obtain ⟨_, hlen, hcell⟩ := World.cells?_some h1
      obtain ⟨ys, k, _, _, _, hyl, hf2⟩ := DataW.trod_struct Try.underlying32 h2
      match cs', hlen with
      | [v0, v1, v2], _ =>
        have g0 := hf2 0 _ rfl
        have g1 := hf2 1 _ rfl
        have g2 := hf2 2 _ rfl
        match ys, hyl with
        | [y0, y1, y2], _ =>
          simp [show Try.prog.cellsOf 2 = 1 by kernel_rfl, show Try.prog.cellsOf 3 = 1 by kernel_rfl] at g0 g1 g2
          obtain ⟨z0, hz0, _, w0⟩ := DataW.trod_int Try.underlying2 g0
          obtain ⟨z1, hz1, _, w1⟩ := DataW.trod_int Try.underlying3 g1
          obtain ⟨z2, hz2, _, w2⟩ := DataW.trod_int Try.underlying3 g2
          simp at hz0 hz1 hz2
          subst hz0 hz1 hz2
          refine ⟨⟨z0, z1, z2⟩, ?_, wf64 w0, wf64 w1, wf64 w2⟩
          intro j v hj
          have hj3 : j < 3 := by
            have := (List.getElem?_eq_some_iff.1 hj).1
            simpa [stL] using this
          have := hcell j hj3
          rw [add_add] at this
          rw [this]
          exact hj
    obtain ⟨q, hq⟩ := @choose_lt St ⟨StMath.zero⟩ _ _ each
    refine ⟨(List.range len).map q, ?_, by simp, hl, hm, ?_⟩
    · by_cases h0 : len = 0
      · left; simp [h0]
      · right
        obtain ⟨b, off, spot⟩ := x
        have h1 := (hq 0 (by omega)).1 0 _ rfl
        have hspot : spot = none := by simpa [Addr.add] using World.cell?_spot h1
        subst hspot
        refine ⟨b, off, rfl, fun i hi => ?_⟩
        simp at hi
        intro j v hj
        have hg : ((List.range len).map q)[i]?.getD StMath.zero = q i := by simp [hi]
        rw [hg] at hj
        have h2 := (hq i hi).1 j v hj
        rw [Addr.add_lit] at h2
        rw [Nat.add_assoc]
        exact h2
    · intro s hs
      obtain ⟨i, hi, rfl⟩ := List.mem_map.1 hs
      exact (hq i (by simpa using hi)).2
end Go.Proofs.Ytecijlgkadlmnaa
