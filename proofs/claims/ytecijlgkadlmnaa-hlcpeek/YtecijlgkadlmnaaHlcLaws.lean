/-
  What the clock's calls keep, for the walks of layer 8's laws.
-/
import Derived.Test.YtecijlgkadlmnaaHlcKit
namespace Go.Proofs.Ytecijlgkadlmnaa
open Go.RowKit NumMath
open StMath (St)
open HlcMath (Ck)
set_option maxRecDepth 100000
set_option linter.unusedVariables false
set_option linter.unusedSimpArgs false

theorem u16s {zs : List Int} (hw : ∀ n ∈ zs, (Lit.int .u16 n).wf = true) : ∀ c ∈ zs, 0 ≤ c ∧ c ≤ 65535 := fun c hc => bounds_u16 (hw c hc)
theorem u32s' {zs : List Int} (hw : ∀ n ∈ zs, (Lit.int .u32 n).wf = true) : ∀ c ∈ zs, 0 ≤ c ∧ c ≤ 4294967295 := fun c hc => bounds_u32 (hw c hc)
theorem peek_ok {c : Ck} (ho : HlcMath.Ok c) {now : Int} {s : St} (h : HlcMath.peek c now = (s, 0)) : HlcMath.Ok { c with s := s } ∧ s.r = c.s.r ∧ s.l ≤ c.m ∧ now ≤ s.p ∧ (c.s.p < s.p ∨ (c.s.p = s.p ∧ c.s.l < s.l)) ∧ s.p ≤ now + c.d ∧ 0 ≤ now := by
  unfold HlcMath.peek at h
  split at h
  · rename_i hp
    rw [HlcMath.isPhys_iff] at hp
    obtain ⟨p0, p1, l0, l1, r0, r1, m0, m1, d0, d1⟩ := ho
    unfold HlcMath.foll at h
    split at h
    · rename_i s' hf
      unfold HlcMath.lim at h
      split at h
      · simp at h
      · rename_i hl
        cases h
        repeat' split at hf
        all_goals first
          | (cases hf
             dsimp only at *
             exact ⟨⟨by dsimp only; omega, by dsimp only; omega, by dsimp only; omega, by dsimp only; omega, r0, r1, m0, m1, d0, d1⟩, rfl, by omega, by omega, by omega, by omega, by omega⟩)
          | (exact absurd hf (by simp))
    · simp at h
  · simp at h
theorem next_ok {c : Ck} (ho : HlcMath.Ok c) (now : Int) : HlcMath.Ok (HlcMath.next c now) := by
  obtain ⟨s, e, h⟩ : ∃ s e, HlcMath.peek c now = (s, e) := ⟨_, _, rfl⟩
  unfold HlcMath.next
  rw [h]
  dsimp only
  by_cases he : e = 0
  · subst he
    rw [if_pos rfl]
    exact (peek_ok ho h).1
  · rw [if_neg he]; exact ho
theorem raise_ok {c : Ck} (ho : HlcMath.Ok c) {p l : Int} (h0 : 0 ≤ p) (h1 : p ≤ 281474976710655) (h2 : 0 ≤ l) (h3 : l ≤ 65535) : HlcMath.Ok (HlcMath.raise c p l) := by
  unfold HlcMath.raise
  obtain ⟨p0, p1, l0, l1, r0, r1, m0, m1, d0, d1⟩ := ho
  split
  · exact ⟨h0, h1, h2, h3, r0, r1, m0, m1, d0, d1⟩
  · exact ⟨p0, p1, l0, l1, r0, r1, m0, m1, d0, d1⟩
theorem check_right {c : Ck} {now : Int} {s : St} (h : HlcMath.check c now s = 0) : StMath.right s = true ∧ s.p ≤ now + c.d := by
  unfold HlcMath.check at h
  repeat' split at h
  all_goals first
    | (simp at h; done)
    | (refine ⟨by assumption, by omega⟩)
theorem witness_ok {c : Ck} (ho : HlcMath.Ok c) (now : Int) (s : St) : HlcMath.Ok (HlcMath.witness c now s) := by
  unfold HlcMath.witness
  split
  · rename_i h
    obtain ⟨a0, a1, b0, b1, c0, c1⟩ := StMath.right_iff.1 (check_right h).1
    exact raise_ok ho a0 a1 b0 b1
  · exact ho
theorem floor_ok {c : Ck} (ho : HlcMath.Ok c) (p : Int) : HlcMath.Ok (HlcMath.floor c p) :=
  raise_ok ho (HlcMath.held_bd p).1 (HlcMath.held_bd p).2 ho.m0 ho.m1
end Go.Proofs.Ytecijlgkadlmnaa
