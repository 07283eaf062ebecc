/-
  What the laws' parameters are: texts as lists of bytes, numbers of 16 bits.
-/
import Derived.Test.YtpffjeoiacaihaaDoorL4Known
import Derived.Test.YtpffjeoiacaihaaDoorFnSeat
namespace Go.Proofs.YtpffjeoiacaihaaDoor
open Go.RowKit NumMath
set_option maxRecDepth 100000
set_option linter.unusedVariables false
set_option linter.unusedSimpArgs false

theorem nats16 {xs : List Int} (h : ∀ n ∈ xs, (Lit.int .u16 n).wf = true) : ∃ ns : List Nat, xs = ns.map (fun n : Nat => (n : Int)) ∧ ∀ x ∈ ns, x < 65536 := by
  refine ⟨xs.map Int.toNat, ?_, ?_⟩
  · rw [List.map_map]
    conv => lhs; rw [← List.map_id xs]
    apply List.map_congr_left
    intro n hn
    have := bounds_u16 (h n hn)
    simp; omega
  · intro x hx
    obtain ⟨n, hn, rfl⟩ := List.mem_map.1 hx
    have := bounds_u16 (h n hn)
    omega
theorem vrow16 {w : World} {a : Option Addr} {ns : List Nat} (h : Row .u16 w a (ns.map (fun n : Nat => (n : Int)))) : VRow w a (hv16 ns) := by
  rcases h with h | ⟨b, off, ha, hc⟩
  · left; rw [List.map_eq_nil_iff] at h; subst h; rfl
  · refine .inr ⟨b, off, ha, fun i v hi => ?_⟩
    have hil : i < ns.length := by have := (List.getElem?_eq_some_iff.1 hi).1; rwa [hv16_len] at this
    have := hc i (by rw [List.length_map]; exact hil)
    rw [this]
    simp [hv16, hil] at hi ⊢
    exact hi
theorem foldB_lt (l : List Nat) : ∀ c ∈ TxtMath.foldB l, c < 256 := TxtMath.encs_lt _ (TxtMath.fold_ok l)
theorem foldB_len (l : List Nat) : (TxtMath.foldB l).length ≤ 4 * l.length := by
  have h1 := TxtMath.encs_len_le (TxtMath.foldR l)
  have h2 : (TxtMath.foldR l).length ≤ l.length := by unfold TxtMath.foldR; rw [List.length_map]; exact TxtMath.runes_len_le l
  unfold TxtMath.foldB; omega
end Go.Proofs.YtpffjeoiacaihaaDoor
