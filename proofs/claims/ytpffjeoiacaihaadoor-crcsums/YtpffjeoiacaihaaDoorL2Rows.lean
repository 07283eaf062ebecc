/-
  A slice of slices of bytes that came in: its elements are parts.
-/
import Derived.Test.YtpffjeoiacaihaaDoorCrcKit
import Derived.Deep.Matrix
namespace Go.Proofs.YtpffjeoiacaihaaDoor
open Go.RowKit NumMath
set_option maxRecDepth 100000
set_option linter.unusedVariables false
set_option linter.unusedSimpArgs false

theorem parts_of_rows {w : World} {x : Addr} {base len cap : Nat} {A : Nat → Option Addr} {L C : Nat → Nat} {Z : Nat → List Int} (hl : len ≤ cap)
    (hx : ∀ r, r < cap → w.cell? (x.add r) = some (.slice (A r) (L r) (C r)) ∧ L r ≤ C r ∧ C r ≤ maxLen ∧ (Z r).length = C r ∧ (∀ n ∈ Z r, (Lit.int .u8 n).wf = true) ∧ (A r = none → C r = 0) ∧
      ∀ a', A r = some a' → base ≤ a'.block ∧ ∀ c, c < C r → w.cell? (a'.add c) = some (.int .u8 ((Z r).getD c 0))) :
    ∃ ps : List Part, Parts w (some x) ps ∧ ps.length = len := by
  have each : ∀ r, r < cap → (Part.mk (A r) ((Z r).take (L r)) (C r)).ok w ∧ ((Z r).take (L r)).length = L r := by
    intro r hr
    obtain ⟨_, h1, h2, h3, h4, h5, h6⟩ := hx r hr
    have hlen : ((Z r).take (L r)).length = L r := by rw [List.length_take]; omega
    have hu : ∃ xs : List Int, Row .u8 w (A r) xs ∧ xs = (Z r).take (L r) := by
      by_cases h0 : (Z r).take (L r) = []
      · exact ⟨_, .inl h0, rfl⟩
      · have hL : 0 < L r := by
          cases hz : L r with
          | zero => rw [hz] at h0; simp at h0
          | succ m => omega
        cases ha : A r with
        | none => have := h5 ha; omega
        | some a' =>
          obtain ⟨b, off, spot⟩ := a'
          have hc := (h6 _ ha).2
          have c0 := hc 0 (by omega)
          have hspot : spot = none := by simpa [Addr.add] using World.cell?_spot c0
          subst hspot
          refine ⟨_, .inr ⟨b, off, rfl, fun i hi => ?_⟩, rfl⟩
          rw [hlen] at hi
          have h7 := hc i (by omega)
          rw [Addr.add_lit] at h7
          rw [h7]
          have h8 : i < (Z r).length := by omega
          simp [hi, h8]
    obtain ⟨xs, hr1, hxs⟩ := hu
    rw [hxs] at hr1
    exact ⟨part_ok hr1 (fun c hc => bounds_u8 (h4 c (List.mem_of_mem_take hc))) (by rw [hlen]; exact h1) h2, hlen⟩
  refine ⟨(List.range len).map fun r => ⟨A r, (Z r).take (L r), C r⟩, ⟨?_, ?_⟩, by simp⟩
  · by_cases h0 : len = 0
    · left; simp [h0]
    · right
      obtain ⟨b, off, spot⟩ := x
      have h1 := (hx 0 (by omega)).1
      have hspot : spot = none := by simpa [Addr.add] using World.cell?_spot h1
      subst hspot
      refine ⟨b, off, rfl, fun i hi => ?_⟩
      simp at hi
      have h2 := (hx i (by omega)).1
      rw [Addr.add_lit] at h2
      rw [h2]
      simp [hi, Part.val]
      rw [(each i (by omega)).2.symm]
      simp
  · intro p hp
    obtain ⟨r, hr, rfl⟩ := List.mem_map.1 hp
    exact (each r (by have := List.mem_range.1 hr; omega)).1
end Go.Proofs.YtpffjeoiacaihaaDoor
