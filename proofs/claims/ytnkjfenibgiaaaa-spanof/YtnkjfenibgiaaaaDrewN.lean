/-
  Draws change nothing that is below.
-/
import Derived.Below
import Derived.Deep.Draws
namespace Go.Proofs.Ytnkjfenibgiaaaa
open Go.RowKit
set_option maxRecDepth 100000
theorem Below.drewN {B : Nat} {a w : World} (h : Below B a w) (n : Nat) : Below B a (w.drewN n) := ⟨h.os, h.tape, h.output, h.size, h.block⟩
end Go.Proofs.Ytnkjfenibgiaaaa
