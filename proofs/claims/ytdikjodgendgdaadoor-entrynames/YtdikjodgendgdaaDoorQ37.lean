/-
  L6TabD.
-/
import Derived.Test.YtdikjodgendgdaaDoorQ34
import Derived.Test.YtdikjodgendgdaaDoorQ26
import Derived.Test.YtdikjodgendgdaaDoorQ07
import Derived.Test.YtdikjodgendgdaaDoorCards
import Derived.Test.YtdikjodgendgdaaDoorTie
import Derived.Lib.LaidTab
import Derived.Lib.LaidU8
import Derived.LaidSub
import Derived.Shelf.Vars
import Derived.MakeChecks
namespace Go.Proofs.YtdikjodgendgdaaDoor
open Go.RowKit NumMath
set_option maxRecDepth 100000
set_option linter.unusedVariables false
set_option linter.unusedSimpArgs false

theorem gFirst : Tryd.prog.globalNamed "newsreel/sha.firstWords" = some 0 := by kernel_rfl
theorem gRound : Tryd.prog.globalNamed "newsreel/sha.roundWords" = some 1 := by kernel_rfl
theorem tFirst : (Tryd.prog.globals[0]?).map (·.type) = some 92 := by kernel_rfl
theorem tRound : (Tryd.prog.globals[1]?).map (·.type) = some 102 := by kernel_rfl
theorem cells47 : Tryd.prog.cellsOf 92 = 8 := by kernel_rfl
theorem cells58 : Tryd.prog.cellsOf 102 = 64 := by kernel_rfl
theorem cells46 : Tryd.prog.cellsOf 91 = 1 := by kernel_rfl

theorem ints_at (l : List Nat) (i : Nat) (h : i < l.length) : (ints l).getD i 0 = ((l[i]?.getD 0 : Nat) : Int) := by simp [ints, h]

theorem tab_of_laid {l : List (String × DataW Unit)} {W : World} (h : laidMetH Tryd.prog l W)
    (h1 : l.filter (fun x => x.1 == "newsreel/sha.firstWords") = [("newsreel/sha.firstWords", Lib.tabData .u32 (ints ShaMath.init.list))] := by kernel_rfl)
    (h2 : l.filter (fun x => x.1 == "newsreel/sha.roundWords") = [("newsreel/sha.roundWords", Lib.tabData .u32 (ints ShaMath.keys))] := by kernel_rfl) : Tabs W := by
  have a1 := h.filter (fun x => x.1 == "newsreel/sha.firstWords")
  have a2 := h.filter (fun x => x.1 == "newsreel/sha.roundWords")
  rw [h1] at a1
  rw [h2] at a2
  have t1 : Lib.TabIs Tryd.prog W "newsreel/sha.firstWords" .u32 (ints ShaMath.init.list) := Lib.tabIs_of_head (rest := []) gFirst tFirst Tryd.underlying92 Tryd.underlying91 cells46 cells47 a1
  have t2 : Lib.TabIs Tryd.prog W "newsreel/sha.roundWords" .u32 (ints ShaMath.keys) := Lib.tabIs_of_head (rest := []) gRound tRound Tryd.underlying102 Tryd.underlying91 cells46 cells58 a2
  refine ⟨fun i hi => ?_, fun i hi => ?_⟩
  · rw [t1.cell gFirst i (by rw [ints_len]; exact hi), ints_at _ _ hi]
  · rw [t2.cell gRound i (by rw [ints_len, keys_len]; exact hi), ints_at _ _ (by rw [keys_len]; exact hi)]
theorem maxLen_of_shape {W : World} (h : W.ShapedOpen Tryd.prog) : MaxLen W :=
  cell_of_shapedOpen_int (g := 2) (t := 3) (zero := #[.int .i64 0]) h (of_decide_eq_true (by kernel_rfl)) (by kernel_rfl) rfl (by kernel_rfl) (by kernel_rfl) Tryd.underlying3
theorem env_of {l : List (String × DataW Unit)} {W : World} (h : laidMetH Tryd.prog l W) (hs : W.ShapedOpen Tryd.prog)
    (h1 : l.filter (fun x => x.1 == "newsreel/sha.firstWords") = [("newsreel/sha.firstWords", Lib.tabData .u32 (ints ShaMath.init.list))] := by kernel_rfl)
    (h2 : l.filter (fun x => x.1 == "newsreel/sha.roundWords") = [("newsreel/sha.roundWords", Lib.tabData .u32 (ints ShaMath.keys))] := by kernel_rfl) : Env W :=
  ⟨tab_of_laid h h1 h2, maxLen_of_shape hs⟩
/-- A world in which the tables lie as their initialisers lay them. -/
def layIn (cs : Array Value) (g : Nat) (h : Array Obj) : Array Obj := h.modify g fun
  | .cells _ t frozen => .cells cs t frozen
  | o => o
def laidWorld (W : World) : World :=
  { W with heap := layIn (u32s ShaMath.init.list).toArray 0 (layIn (u32s ShaMath.keys).toArray 1 (layIn (Lib.firstTab.map (Value.int .u8)).toArray 3 (layIn ((List.range 16).flatMap fun i => [Value.int .u8 (Lib.accLo i : Int), Value.int .u8 (Lib.accHi i : Int)]).toArray 4 W.heap))) }
end Go.Proofs.YtdikjodgendgdaaDoor
