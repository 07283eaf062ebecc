/-
  Rows of ranges in memory.
-/
import Derived.Test.YtnkjfenibgiaaaaRngKit
namespace Go.Proofs.Ytnkjfenibgiaaaa
open Go.RowKit NumMath
open SpanMath (Rg)
set_option maxRecDepth 100000
set_option linter.unusedVariables false
set_option linter.unusedSimpArgs false

/-- From address a on these ranges lie. -/
def GRow (w : World) (a : Option Addr) (ss : List Rg) : Prop := ss = [] ∨ ∃ b off, a = some ⟨b, off, none⟩ ∧ ∀ i, i < ss.length → w.rangeAt b (off + i * 2) (rgL (ss[i]?.getD SpanMath.zero))
theorem grange_later {w w' : World} {b o : Nat} {l : List Value} (h : w.rangeAt b o l) (hb : Below w.heap.size w w') : w'.rangeAt b o l := by
  intro j v hv
  have := h j v hv
  rw [hb.cell (World.block_lt_of_cell? w _ this)]
  exact this
theorem GRow.later {w w' : World} {a : Option Addr} {ss : List Rg} (h : GRow w a ss) (hb : Below w.heap.size w w') : GRow w' a ss := by
  rcases h with h | ⟨b, off, ha, hc⟩
  · exact .inl h
  · exact .inr ⟨b, off, ha, fun i hi => grange_later (hc i hi) hb⟩
theorem GRow.at {w : World} {a : Option Addr} {ss : List Rg} (h : GRow w a ss) (hn : 0 < ss.length) : ∃ b off, a = some ⟨b, off, none⟩ ∧ ∀ i, i < ss.length → w.rangeAt b (off + i * 2) (rgL (ss[i]?.getD SpanMath.zero)) := by
  rcases h with h | h
  · rw [h] at hn; simp at hn
  · exact h
theorem grange_cells {w : World} {b o : Nat} {s : Rg} (h : w.rangeAt b o (rgL s)) : w.cell? ⟨b, o, none⟩ = some (.int .i64 s.f) ∧ w.cell? ⟨b, o + 1, none⟩ = some (.int .i64 s.t) :=
  ⟨h 0 _ rfl, h 1 _ rfl⟩
end Go.Proofs.Ytnkjfenibgiaaaa
