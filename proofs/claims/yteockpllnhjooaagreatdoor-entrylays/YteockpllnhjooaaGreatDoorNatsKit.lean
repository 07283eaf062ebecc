/-
  Slices of numbers of 16 bits, as parameters of a law.
-/
import Derived.Test.YteockpllnhjooaaGreatDoorFnSeat
namespace Go.Proofs.YteockpllnhjooaaGreatDoor
open Go.RowKit NumMath
set_option maxRecDepth 100000
set_option linter.unusedVariables false
set_option linter.unusedSimpArgs false

theorem nats16k {xs : List Int} (h : ∀ n ∈ xs, (Lit.int .u16 n).wf = true) : ∃ ns : List Nat, xs = ns.map (fun n : Nat => (n : Int)) ∧ ∀ x ∈ ns, x < 65536 := by
  refine ⟨xs.map Int.toNat, ?_, ?_⟩
  · rw [List.map_map]
    conv => lhs; rw [← List.map_id xs]
    apply List.map_congr_left
    intro n hn
    have := bounds_u16 (h n hn)
    simp; omega
  · intro x hx
    obtain ⟨n, hn, rfl⟩ := List.mem_map.1 hx
    have := bounds_u16 (h n hn)
    omega
theorem vrow16k {w : World} {a : Option Addr} {ns : List Nat} (h : Row .u16 w a (ns.map (fun n : Nat => (n : Int)))) : VRow w a (hv16 ns) := by
  rcases h with h | ⟨b, off, ha, hc⟩
  · left; rw [List.map_eq_nil_iff] at h; subst h; rfl
  · refine .inr ⟨b, off, ha, fun i v hi => ?_⟩
    have hil : i < ns.length := by have := (List.getElem?_eq_some_iff.1 hi).1; rwa [hv16_len] at this
    have := hc i (by rw [List.length_map]; exact hil)
    rw [this]
    simp [hv16, hil] at hi ⊢
    exact hi
end Go.Proofs.YteockpllnhjooaaGreatDoor
