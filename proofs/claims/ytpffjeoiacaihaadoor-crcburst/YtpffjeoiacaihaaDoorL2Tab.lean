/-
  What the listed variable gives: the table's cells hold what four bits do. And a world in which it lies, for the witness.
-/
import Derived.Test.YtpffjeoiacaihaaDoorFnCrcMore
import Derived.Test.YtpffjeoiacaihaaDoorCards
import Derived.Test.YtpffjeoiacaihaaDoorTie
import Derived.Lib.LaidTab
namespace Go.Proofs.YtpffjeoiacaihaaDoor
open Go.RowKit
set_option maxRecDepth 100000

theorem nibG : Tryd.prog.globalNamed "newsreel/crc.nibbles" = some 0 := by kernel_rfl
theorem nibType : (Tryd.prog.globals[0]?).map (·.type) = some 57 := by kernel_rfl
theorem nibCells : Tryd.prog.cellsOf 57 = 16 := by kernel_rfl
theorem u32Cells : Tryd.prog.cellsOf 25 = 1 := by kernel_rfl

theorem tab_of_laid {W : World} (h : laidMetH Tryd.prog [("newsreel/crc.nibbles", Rows.laid_newsreel_crc_nibbles)] W) : Tab W := by
  have ht : Lib.TabIs Tryd.prog W "newsreel/crc.nibbles" .u32 [0, 498536548, 997073096, 651767980, 1994146192, 1802195444, 1303535960, 1342533948, 3988292384, 4027552580, 3604390888, 3412177804, 2607071920, 2262029012, 2685067896, 3183342108] :=
    Lib.tabIs_of_head (rest := []) nibG nibType Tryd.underlying57 Tryd.underlying25 u32Cells nibCells h
  intro i hi
  have hc := ht.cell nibG i (by simpa using hi)
  rw [hc]
  have : ∀ i : Fin 16, ([0, 498536548, 997073096, 651767980, 1994146192, 1802195444, 1303535960, 1342533948, 3988292384, 4027552580, 3604390888, 3412177804, 2607071920, 2262029012, 2685067896, 3183342108] : List Int).getD i.val 0 = ((CrcMath.steps 4 i.val : Nat) : Int) := by decide +kernel
  rw [this ⟨i, hi⟩]

/-- A world in which the table lies as its initialiser lays it. -/
def laidWorld (W : World) : World :=
  { W with heap := W.heap.modify 0 fun
      | .cells _ t frozen => .cells (#[0, 498536548, 997073096, 651767980, 1994146192, 1802195444, 1303535960, 1342533948, 3988292384, 4027552580, 3604390888, 3412177804, 2607071920, 2262029012, 2685067896, 3183342108].map (Value.int .u32)) t frozen
      | o => o }
end Go.Proofs.YtpffjeoiacaihaaDoor
