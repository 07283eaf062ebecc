/-
  What DotLists and DotSorts share: a slice of dots cut at its end; what is right of the lists they make.
-/
import Derived.Test.YtehaeepihjookaaL9Kit
import Derived.Test.YtehaeepihjookaaFnDotG
namespace Go.Proofs.Ytehaeepihjookaa
open Go.RowKit NumMath
open DotMath (Dt)
set_option maxRecDepth 100000
set_option linter.unusedVariables false
set_option linter.unusedSimpArgs false

/-- The head of a slice of dots, with all its room. -/
theorem cut_head {ao : Option Addr} {L c p : Nat} (ha : ao = none ∨ ∃ b off, ao = some ⟨b, off, none⟩) (hn : ao = none → c = 0) (h1 : p ≤ L) (h2 : L ≤ c) (w : World) : (Instr.sliceAt 25 (.slice ao L c) none (some (.int .i64 (p : Int))) none).run Try.prog w = .ok (.slice ao p c) w := by
  rcases ha with rfl | ⟨b, off, rfl⟩
  · obtain rfl : c = 0 := hn rfl
    obtain rfl : L = 0 := by omega
    obtain rfl : p = 0 := by omega
    go_simp
  · have h3 : (p : Int) ≤ (c : Int) := by omega
    have h4 : (0 : Int) ≤ (p : Int) := by omega
    go_simp
theorem own_addr {w : World} {base : Nat} {v : Value} {ds : List Dt} (h : DOwn w base v ds) : ∃ ao c, v = .slice ao ds.length c ∧ DRow w ao ds ∧ ds.length ≤ c ∧ c ≤ maxLen ∧ (ao = none → c = 0) ∧ (ao = none ∨ ∃ b off, ao = some ⟨b, off, none⟩) := by
  have hd := h.dots
  rcases h.own.2 with ⟨h2, h3⟩ | ⟨g, cap, cur, hv, hg, hcur, h5, h6, h7, h8⟩
  · obtain rfl : ds = [] := List.eq_nil_of_length_eq_zero h3
    exact ⟨none, 0, h2, DRow.nil _ _, Nat.le_refl _, by decide, fun _ => rfl, .inl rfl⟩
  · obtain ⟨ao, c, hv2, hr, hc, hm, hn⟩ := hd
    rw [hv] at hv2
    simp only [Value.slice.injEq, true_and] at hv2
    obtain ⟨ha, hc2⟩ := hv2
    exact ⟨some ⟨g, 0, none⟩, cap, hv, by rw [ha]; exact hr, h5, h6, (fun e => by cases e), .inr ⟨g, 0, rfl⟩⟩
theorem bytes_form {w : World} {v : Value} {ys : List Int} (h : Bytes w v ys) : ∃ a l c, v = .slice a l c ∧ l = ys.length ∧ Bytes w (.slice a l c) ys := by
  obtain ⟨a, c, rfl, r⟩ := h
  exact ⟨a, ys.length, c, rfl, rfl, a, c, rfl, r⟩
theorem rises_take {l : List Dt} (h : DotMath.rises l = true) (m : Nat) : DotMath.rises (l.take m) = true := by
  rw [DotMath.rises_iff] at h ⊢
  exact ⟨fun d hd => h.1 d (List.mem_of_mem_take hd), h.2.sublist (List.take_sublist m l)⟩
theorem rises_sort {l : List Dt} (h : ∀ d ∈ l, DotMath.right d = true) : DotMath.rises (DotMath.sort l) = true := by
  rw [DotMath.rises_iff]
  exact ⟨fun d hd => h d ((DotMath.sort_mem l d).1 hd), DotMath.sort_rise l⟩
end Go.Proofs.Ytehaeepihjookaa
