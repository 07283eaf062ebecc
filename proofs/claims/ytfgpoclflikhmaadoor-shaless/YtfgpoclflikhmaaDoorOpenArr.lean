/-
  An array of bytes that came in, by value: its bytes.
-/
import Derived.Test.YtfgpoclflikhmaaDoorShaKit
import Derived.OpenShut
namespace Go.Proofs.YtfgpoclflikhmaaDoor
open Go.RowKit Go.WideShapes Go.ChangeShapes
set_option maxRecDepth 100000
set_option linter.unusedVariables false

theorem open_arr8 {H : Type} {enc : TypeId × Value → H} {P : Program} {w : World} {r : Reach} {b0 base : Nat} {sp : Nat → Bool} {held : Bool} {t e : TypeId} {n : Nat} {v : Value} {d : DataW H} {ps : List MemPlace}
    (ht : P.underlying t = some (.array n e)) (he : P.underlying e = some (.int .u8)) (hce : P.cellsOf e = 1) (hct : P.cellsOf t = n) (hval : Value.okWide P w r b0 t v) (h : DataW.Trod enc P w base sp held t v d ps) :
    ∃ xs : List Nat, v = .agg (u8v xs).toArray ∧ xs.length = n ∧ ∀ c ∈ xs, c < 256 := by
  obtain ⟨cs, rfl, hsz⟩ : ∃ cs, v = .agg cs ∧ cs.size = P.cellsOf t := by
    simp only [Value.okWide, ht] at hval
    obtain ⟨cs, h1, h2, _⟩ := hval
    exact ⟨cs, h1, h2⟩
  obtain ⟨fuel, hf⟩ := h
  obtain ⟨xs, m, _, _, hl, hxl, hall⟩ := DataW.trod_array ht hf
  have hcl : cs.toList.length = n := by simpa [Value.cells, hct] using hl
  have hat : ∀ i, i < n → ∃ k : Nat, k < 256 ∧ cs.toList[i]? = some (.int .u8 (k : Int)) := by
    intro i hi
    have h1 := hall i hi
    rw [hce, Nat.mul_one] at h1
    have hx : ∃ x, xs[i]? = some x := ⟨xs[i], by simp [hxl, hi]⟩
    obtain ⟨x, hx⟩ := hx
    rw [hx] at h1
    obtain ⟨z, hz, _, hw⟩ := DataW.trod_int he h1
    have hb := bounds_u8 hw
    refine ⟨z.toNat, by omega, ?_⟩
    have hi' : i < cs.toList.length := by omega
    have hd : ((cs.toList.drop i).take 1)[0]? = cs.toList[i]? := by simp
    have hz' : (cs.toList.drop i).take 1 = [Value.int .u8 z] := by simpa [Value.cells] using hz
    rw [← hd, hz']
    simp
    omega
  refine ⟨cs.toList.map (fun v => match v with | .int _ z => z.toNat | _ => 0), ?_, by simpa using hcl, ?_⟩
  · congr 1
    apply Array.toList_inj.1
    apply List.ext_getElem?
    intro i
    by_cases hi : i < n
    · obtain ⟨k, _, hk⟩ := hat i hi
      rw [hk]
      simp [u8v, hk]
    · rw [List.getElem?_eq_none (by omega), List.getElem?_eq_none (by simp [u8v]; simpa using (by omega : cs.toList.length ≤ i))]
  · intro c hc
    obtain ⟨v, hv, rfl⟩ := List.mem_map.1 hc
    obtain ⟨i, hi, rfl⟩ := List.getElem_of_mem hv
    obtain ⟨k, hk, hki⟩ := hat i (by omega)
    have : cs.toList[i] = .int .u8 (k : Int) := by
      have := List.getElem?_eq_getElem hi
      rw [this] at hki
      exact Option.some.inj hki
    rw [this]
    simpa using hk
end Go.Proofs.YtfgpoclflikhmaaDoor
