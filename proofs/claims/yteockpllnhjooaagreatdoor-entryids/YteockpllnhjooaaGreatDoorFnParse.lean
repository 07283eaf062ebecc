/-
  addr.Parse at a known answer.
-/
import Derived.Test.YteockpllnhjooaaGreatDoorFnAddrI
namespace Go.Proofs.YteockpllnhjooaaGreatDoor
open Go.RowKit NumMath
open AddrMath (parse right hostOf)
set_option maxRecDepth 100000
set_option linter.unusedVariables false
set_option linter.unusedSimpArgs false

theorem parse_at (l f : List Nat) (k : Nat) (w : World) (ht : MaxLen w) (hb : ∀ c ∈ l, c < 256) (hm : l.length ≤ 10000) (h : parse l = (f, k)) :
    Calls Tryz.prog 24 #[.string (strN l)] w fun e w' => e = .returned (.tuple #[.string (strN f), .int .i64 (k : Int)]) ∧ Below w.heap.size w w' := by
  have := parse_any l w ht hb hm
  have e : parseV l = .tuple #[.string (strN f), .int .i64 (k : Int)] := by unfold parseV; rw [h]
  rw [e] at this
  exact this
end Go.Proofs.YteockpllnhjooaaGreatDoor
