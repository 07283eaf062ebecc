/-
  Rows of stamps in memory.
-/
import Derived.Test.YtecijlgkadlmnaaStKit
namespace Go.Proofs.Ytecijlgkadlmnaa
open Go.RowKit NumMath
open StMath (St)
set_option maxRecDepth 100000
set_option linter.unusedVariables false
set_option linter.unusedSimpArgs false

/-- From address a on these stamps lie. -/
def SRow (w : World) (a : Option Addr) (ss : List St) : Prop := ss = [] ∨ ∃ b off, a = some ⟨b, off, none⟩ ∧ ∀ i, i < ss.length → w.rangeAt b (off + i * 3) (stL (ss[i]?.getD StMath.zero))
theorem range_later {w w' : World} {b o : Nat} {l : List Value} (h : w.rangeAt b o l) (hb : Below w.heap.size w w') : w'.rangeAt b o l := by
  intro j v hv
  have := h j v hv
  rw [hb.cell (World.block_lt_of_cell? w _ this)]
  exact this
theorem SRow.later {w w' : World} {a : Option Addr} {ss : List St} (h : SRow w a ss) (hb : Below w.heap.size w w') : SRow w' a ss := by
  rcases h with h | ⟨b, off, ha, hc⟩
  · exact .inl h
  · exact .inr ⟨b, off, ha, fun i hi => range_later (hc i hi) hb⟩
theorem SRow.at {w : World} {a : Option Addr} {ss : List St} (h : SRow w a ss) (hn : 0 < ss.length) : ∃ b off, a = some ⟨b, off, none⟩ ∧ ∀ i, i < ss.length → w.rangeAt b (off + i * 3) (stL (ss[i]?.getD StMath.zero)) := by
  rcases h with h | h
  · rw [h] at hn; simp at hn
  · exact h
theorem range_cells {w : World} {b o : Nat} {s : St} (h : w.rangeAt b o (stL s)) : w.cell? ⟨b, o, none⟩ = some (.int .i64 s.p) ∧ w.cell? ⟨b, o + 1, none⟩ = some (.int .i64 s.l) ∧ w.cell? ⟨b, o + 2, none⟩ = some (.int .i64 s.r) :=
  ⟨h 0 _ rfl, h 1 _ rfl, h 2 _ rfl⟩
end Go.Proofs.Ytecijlgkadlmnaa
