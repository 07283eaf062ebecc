/-
  What the listed variables give: the tables' cells. And a world in which they lie, for the witness.
-/
import Derived.Test.YtfgpoclflikhmaaDoorShaTab
import Derived.Test.YtfgpoclflikhmaaDoorFnShaPad
import Derived.Test.YtfgpoclflikhmaaDoorCards
import Derived.Test.YtfgpoclflikhmaaDoorTie
import Derived.Lib.LaidTab
import Derived.LaidSub
namespace Go.Proofs.YtfgpoclflikhmaaDoor
open Go.RowKit
set_option maxRecDepth 100000
set_option linter.unusedVariables false

theorem gFirst : Tryd.prog.globalNamed "newsreel/sha.firstWords" = some 0 := by kernel_rfl
theorem gKeys : Tryd.prog.globalNamed "newsreel/newsreelref1.keys" = some 1 := by kernel_rfl
theorem gRound : Tryd.prog.globalNamed "newsreel/sha.roundWords" = some 2 := by kernel_rfl
theorem tFirst : (Tryd.prog.globals[0]?).map (·.type) = some 47 := by kernel_rfl
theorem tKeys : (Tryd.prog.globals[1]?).map (·.type) = some 58 := by kernel_rfl
theorem tRound : (Tryd.prog.globals[2]?).map (·.type) = some 58 := by kernel_rfl
theorem cells47 : Tryd.prog.cellsOf 47 = 8 := by kernel_rfl
theorem cells58 : Tryd.prog.cellsOf 58 = 64 := by kernel_rfl
theorem cells46 : Tryd.prog.cellsOf 46 = 1 := by kernel_rfl

theorem ints_at (l : List Nat) (i : Nat) (h : i < l.length) : (ints l).getD i 0 = ((l[i]?.getD 0 : Nat) : Int) := by simp [ints, h]

theorem tab_of_laid {l : List (String × DataW Unit)} {W : World} (h : laidMetH Tryd.prog l W)
    (h1 : l.filter (fun x => x.1 == "newsreel/sha.firstWords") = [("newsreel/sha.firstWords", Lib.tabData .u32 (ints ShaMath.init.list))] := by kernel_rfl)
    (h2 : l.filter (fun x => x.1 == "newsreel/sha.roundWords") = [("newsreel/sha.roundWords", Lib.tabData .u32 (ints ShaMath.keys))] := by kernel_rfl) : Tabs W := by
  have a1 := h.filter (fun x => x.1 == "newsreel/sha.firstWords")
  have a2 := h.filter (fun x => x.1 == "newsreel/sha.roundWords")
  rw [h1] at a1
  rw [h2] at a2
  have t1 : Lib.TabIs Tryd.prog W "newsreel/sha.firstWords" .u32 (ints ShaMath.init.list) := Lib.tabIs_of_head (rest := []) gFirst tFirst Tryd.underlying47 Tryd.underlying46 cells46 cells47 a1
  have t2 : Lib.TabIs Tryd.prog W "newsreel/sha.roundWords" .u32 (ints ShaMath.keys) := Lib.tabIs_of_head (rest := []) gRound tRound Tryd.underlying58 Tryd.underlying46 cells46 cells58 a2
  refine ⟨fun i hi => ?_, fun i hi => ?_⟩
  · rw [t1.cell gFirst i (by rw [ints_len]; exact hi), ints_at _ _ hi]
  · rw [t2.cell gRound i (by rw [ints_len, keys_len]; exact hi), ints_at _ _ (by rw [keys_len]; exact hi)]
theorem tab3_of_laid {l : List (String × DataW Unit)} {W : World} (h : laidMetH Tryd.prog l W)
    (h1 : l.filter (fun x => x.1 == "newsreel/sha.firstWords") = [("newsreel/sha.firstWords", Lib.tabData .u32 (ints ShaMath.init.list))] := by kernel_rfl)
    (h2 : l.filter (fun x => x.1 == "newsreel/sha.roundWords") = [("newsreel/sha.roundWords", Lib.tabData .u32 (ints ShaMath.keys))] := by kernel_rfl)
    (h3 : l.filter (fun x => x.1 == "newsreel/newsreelref1.keys") = [("newsreel/newsreelref1.keys", Lib.tabData .u32 (ints ShaMath.keys))] := by kernel_rfl) : Tabs3 W := by
  refine ⟨tab_of_laid h h1 h2, fun i hi => ?_⟩
  have a := h.filter (fun x => x.1 == "newsreel/newsreelref1.keys")
  rw [h3] at a
  have t : Lib.TabIs Tryd.prog W "newsreel/newsreelref1.keys" .u32 (ints ShaMath.keys) := Lib.tabIs_of_head (rest := []) gKeys tKeys Tryd.underlying58 Tryd.underlying46 cells46 cells58 a
  rw [t.cell gKeys i (by rw [ints_len, keys_len]; exact hi), ints_at _ _ (by rw [keys_len]; exact hi)]

/-- A world in which the tables lie as their initialisers lay them. -/
def layIn (cs : Array Value) (g : Nat) (h : Array Obj) : Array Obj := h.modify g fun
  | .cells _ t frozen => .cells cs t frozen
  | o => o
def laidWorld (W : World) : World :=
  { W with heap := layIn (u32s ShaMath.init.list).toArray 0 (layIn (u32s ShaMath.keys).toArray 1 (layIn (u32s ShaMath.keys).toArray 2 W.heap)) }
end Go.Proofs.YtfgpoclflikhmaaDoor
