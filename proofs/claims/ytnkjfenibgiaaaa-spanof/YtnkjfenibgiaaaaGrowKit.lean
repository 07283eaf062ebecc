/-
  A region that draws its order, whose operations only read and whose callees only make memory of their own: one walk, in the order of the text.
-/
import Derived.Test.YtnkjfenibgiaaaaKit
import Derived.BigQuiet
namespace Go.Proofs.Ytnkjfenibgiaaaa
open Go.RowKit
set_option maxRecDepth 100000
set_option linter.unusedVariables false
set_option linter.unusedSimpArgs false

/-- A world behind 'w' in which nothing that was there is changed. -/
def Grown1 (w : World) : Type := { w' : World // Below w.heap.size w w' }
def Grown1.w {w : World} (n : Grown1 w) : World := n.val
theorem Grown1.below {w : World} (n : Grown1 w) : Below w.heap.size w n.w := n.property
theorem grown1_of {w w' : World} (h : Below w.heap.size w w') : ∃ n : Grown1 w, w' = n.w := ⟨⟨w', h⟩, rfl⟩
theorem grown1_cell {w : World} {ad : Addr} {v : Value} (h : w.cell? ad = some v) (n : Grown1 w) : n.w.cell? ad = some v := by
  rw [n.below.cell (World.block_lt_of_cell? w _ h)]
  exact h
theorem grown1_call {P : Program} {f : FuncId} {args : Array Value} {w : World} {v : Value} (n : Grown1 w)
    (h : Calls P f args n.w fun e w' => e = .returned v ∧ Below n.w.heap.size n.w w') : Calls P f args n.w fun e w'' => e = .returned v ∧ ∃ m : Grown1 w, w'' = m.w :=
  h.mono fun _ _ ⟨he, hb⟩ => ⟨he, grown1_of (n.below.trans (hb.mono n.below.size))⟩
theorem wp_region_grow {P : Program} {id : Nat} {Q : Exit → Act → World → Prop} {a : Act} {w : World} {l : List Oper} (hm : P.follows .mixedOrders = true) (hB : Region.lexB .any l.toArray = true)
    (h : wpQuiet P l.toArray (fun w' => ∃ n : Grown1 w, w' = n.w) (fun a' => ∀ w', (∃ n : Grown1 w, w' = n.w) → Q .normal a' w') l a) : (Code.region id l.toArray true).wp P Q a w :=
  wp_region_quiet (C := fun w' => ∃ n : Grown1 w, w' = n.w) hm hB (grown1_of ⟨rfl, rfl, rfl, Nat.le_refl _, fun _ _ => rfl⟩) (by simpa using h)
end Go.Proofs.Ytnkjfenibgiaaaa
