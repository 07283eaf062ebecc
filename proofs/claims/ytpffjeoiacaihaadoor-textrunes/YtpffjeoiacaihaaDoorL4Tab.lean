/-
  What the listed variables give: the library's tables. And a world in which they lie, for the witness.
-/
import Derived.Test.YtpffjeoiacaihaaDoorFnLess
import Derived.Test.YtpffjeoiacaihaaDoorCards
import Derived.Test.YtpffjeoiacaihaaDoorTie
import Derived.Lib.LaidU8T
import Derived.LaidSub
import Derived.MakeChecks
namespace Go.Proofs.YtpffjeoiacaihaaDoor
open Go.RowKit NumMath
set_option maxRecDepth 100000
set_option linter.unusedVariables false
set_option linter.unusedSimpArgs false

theorem u8types : U8Types Tryd.prog lays197_ren := ⟨lays197.t5, lays197.t119, lays197.t138, lays197.t139⟩
theorem u8extra : U8Extra Tryd.prog lays197_ren := ⟨by kernel_rfl, by kernel_rfl, by kernel_rfl, by kernel_rfl, by kernel_rfl, by kernel_rfl, by kernel_rfl⟩
theorem mem_of_filter {l : List (String × DataW Unit)} {n : String} {d : DataW Unit} (h : l.filter (fun x => x.1 == n) = [(n, d)]) : (n, d) ∈ l := by
  have : (n, d) ∈ l.filter (fun x => x.1 == n) := by rw [h]; exact List.mem_singleton.2 rfl
  exact (List.mem_filter.1 this).1
theorem tab_of_laid {l : List (String × DataW Unit)} {W : World} (h : laidMetH Tryd.prog l W)
    (h0 : (l.all fun x => x.2.handleName?.isNone) = true := by kernel_rfl)
    (h1 : l.filter (fun x => x.1 == "unicode/utf8.first") = [("unicode/utf8.first", Lib.firstData)] := by kernel_rfl)
    (h2 : l.filter (fun x => x.1 == "unicode/utf8.acceptRanges") = [("unicode/utf8.acceptRanges", Lib.acceptData)] := by kernel_rfl) : Tab W := by
  rw [MakeChecks.laidMetH_plain Tryd.prog l W h0] at h
  exact utf8Tabs_of_readsT u8types u8extra (Lib.laidMet.reads h (mem_of_filter h1)) (Lib.laidMet.reads h (mem_of_filter h2))

/-- A world in which the tables lie as their initialisers lay them. -/
def layIn (cs : Array Value) (g : Nat) (h : Array Obj) : Array Obj := h.modify g fun
  | .cells _ t frozen => .cells cs t frozen
  | o => o
def laidWorld (W : World) : World :=
  { W with heap := layIn (Lib.firstTab.map (Value.int .u8)).toArray 1 (layIn ((List.range 16).flatMap fun i => [Value.int .u8 (Lib.accLo i : Int), Value.int .u8 (Lib.accHi i : Int)]).toArray 2 W.heap) }
end Go.Proofs.YtpffjeoiacaihaaDoor
