/-
  Rows of dots in memory.
-/
import Derived.Test.YtehaeepihjookaaDotKit
namespace Go.Proofs.Ytehaeepihjookaa
open Go.RowKit NumMath
open DotMath (Dt)
set_option maxRecDepth 100000
set_option linter.unusedVariables false
set_option linter.unusedSimpArgs false

/-- From address a on these dots lie. -/
def DRow (w : World) (a : Option Addr) (ss : List Dt) : Prop := ss = [] ∨ ∃ b off, a = some ⟨b, off, none⟩ ∧ ∀ i, i < ss.length → w.rangeAt b (off + i * 2) (dtL (ss[i]?.getD DotMath.zero))
theorem drange_later {w w' : World} {b o : Nat} {l : List Value} (h : w.rangeAt b o l) (hb : Below w.heap.size w w') : w'.rangeAt b o l := by
  intro j v hv
  have := h j v hv
  rw [hb.cell (World.block_lt_of_cell? w _ this)]
  exact this
theorem DRow.later {w w' : World} {a : Option Addr} {ss : List Dt} (h : DRow w a ss) (hb : Below w.heap.size w w') : DRow w' a ss := by
  rcases h with h | ⟨b, off, ha, hc⟩
  · exact .inl h
  · exact .inr ⟨b, off, ha, fun i hi => drange_later (hc i hi) hb⟩
theorem DRow.at {w : World} {a : Option Addr} {ss : List Dt} (h : DRow w a ss) (hn : 0 < ss.length) : ∃ b off, a = some ⟨b, off, none⟩ ∧ ∀ i, i < ss.length → w.rangeAt b (off + i * 2) (dtL (ss[i]?.getD DotMath.zero)) := by
  rcases h with h | h
  · rw [h] at hn; simp at hn
  · exact h
theorem drange_cells {w : World} {b o : Nat} {s : Dt} (h : w.rangeAt b o (dtL s)) : w.cell? ⟨b, o, none⟩ = some (.int .i64 s.r) ∧ w.cell? ⟨b, o + 1, none⟩ = some (.int .i64 s.s) :=
  ⟨h 0 _ rfl, h 1 _ rfl⟩
end Go.Proofs.Ytehaeepihjookaa
