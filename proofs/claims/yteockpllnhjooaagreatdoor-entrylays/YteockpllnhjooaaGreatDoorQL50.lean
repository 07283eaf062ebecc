/-
  L6Tab.
-/
import Derived.Test.YteockpllnhjooaaGreatDoorQL40
import Derived.Test.YteockpllnhjooaaGreatDoorQL35
import Derived.Test.YteockpllnhjooaaGreatDoorQL05
import Derived.Test.YteockpllnhjooaaGreatDoorQL12
import Derived.Test.YteockpllnhjooaaGreatDoorCards
import Derived.Test.YteockpllnhjooaaGreatDoorTie
import Derived.Lib.LaidTab
import Derived.Lib.LaidU8
import Derived.LaidSub
import Derived.Shelf.Vars
import Derived.MakeChecks
namespace Go.Proofs.YteockpllnhjooaaGreatDoor
open Go.RowKit NumMath
set_option maxRecDepth 100000
set_option linter.unusedVariables false
set_option linter.unusedSimpArgs false

theorem gFirst : Tryz.prog.globalNamed "newsreel/sha.firstWords" = some 0 := by kernel_rfl
theorem gKeys : Tryz.prog.globalNamed "newsreel/newsreelref1.keys" = some 1 := by kernel_rfl
theorem gRound : Tryz.prog.globalNamed "newsreel/sha.roundWords" = some 2 := by kernel_rfl
theorem tFirst : (Tryz.prog.globals[0]?).map (·.type) = some 113 := by kernel_rfl
theorem tKeys : (Tryz.prog.globals[1]?).map (·.type) = some 131 := by kernel_rfl
theorem tRound : (Tryz.prog.globals[2]?).map (·.type) = some 131 := by kernel_rfl
theorem cells47 : Tryz.prog.cellsOf 113 = 8 := by kernel_rfl
theorem cells58 : Tryz.prog.cellsOf 131 = 64 := by kernel_rfl
theorem cells46 : Tryz.prog.cellsOf 112 = 1 := by kernel_rfl

theorem ints_at (l : List Nat) (i : Nat) (h : i < l.length) : (ints l).getD i 0 = ((l[i]?.getD 0 : Nat) : Int) := by simp [ints, h]

theorem tab_of_laid {l : List (String × DataW Unit)} {W : World} (h : laidMetH Tryz.prog l W)
    (h1 : l.filter (fun x => x.1 == "newsreel/sha.firstWords") = [("newsreel/sha.firstWords", Lib.tabData .u32 (ints ShaMath.init.list))] := by kernel_rfl)
    (h2 : l.filter (fun x => x.1 == "newsreel/sha.roundWords") = [("newsreel/sha.roundWords", Lib.tabData .u32 (ints ShaMath.keys))] := by kernel_rfl) : Tabs W := by
  have a1 := h.filter (fun x => x.1 == "newsreel/sha.firstWords")
  have a2 := h.filter (fun x => x.1 == "newsreel/sha.roundWords")
  rw [h1] at a1
  rw [h2] at a2
  have t1 : Lib.TabIs Tryz.prog W "newsreel/sha.firstWords" .u32 (ints ShaMath.init.list) := Lib.tabIs_of_head (rest := []) gFirst tFirst Tryz.underlying113 Tryz.underlying112 cells46 cells47 a1
  have t2 : Lib.TabIs Tryz.prog W "newsreel/sha.roundWords" .u32 (ints ShaMath.keys) := Lib.tabIs_of_head (rest := []) gRound tRound Tryz.underlying131 Tryz.underlying112 cells46 cells58 a2
  refine ⟨fun i hi => ?_, fun i hi => ?_⟩
  · rw [t1.cell gFirst i (by rw [ints_len]; exact hi), ints_at _ _ hi]
  · rw [t2.cell gRound i (by rw [ints_len, keys_len]; exact hi), ints_at _ _ (by rw [keys_len]; exact hi)]
theorem tab3_of_laid {l : List (String × DataW Unit)} {W : World} (h : laidMetH Tryz.prog l W)
    (h1 : l.filter (fun x => x.1 == "newsreel/sha.firstWords") = [("newsreel/sha.firstWords", Lib.tabData .u32 (ints ShaMath.init.list))] := by kernel_rfl)
    (h2 : l.filter (fun x => x.1 == "newsreel/sha.roundWords") = [("newsreel/sha.roundWords", Lib.tabData .u32 (ints ShaMath.keys))] := by kernel_rfl)
    (h3 : l.filter (fun x => x.1 == "newsreel/newsreelref1.keys") = [("newsreel/newsreelref1.keys", Lib.tabData .u32 (ints ShaMath.keys))] := by kernel_rfl) : Tabs3 W := by
  refine ⟨tab_of_laid h h1 h2, fun i hi => ?_⟩
  have a := h.filter (fun x => x.1 == "newsreel/newsreelref1.keys")
  rw [h3] at a
  have t : Lib.TabIs Tryz.prog W "newsreel/newsreelref1.keys" .u32 (ints ShaMath.keys) := Lib.tabIs_of_head (rest := []) gKeys tKeys Tryz.underlying131 Tryz.underlying112 cells46 cells58 a
  rw [t.cell gKeys i (by rw [ints_len, keys_len]; exact hi), ints_at _ _ (by rw [keys_len]; exact hi)]

theorem maxLen_of_shape {W : World} (h : W.ShapedOpen Tryz.prog) : MaxLen W :=
  cell_of_shapedOpen_int (g := 3) (t := 3) (zero := #[.int .i64 0]) h (of_decide_eq_true (by kernel_rfl)) (by kernel_rfl) rfl (by kernel_rfl) (by kernel_rfl) Tryz.underlying3
/-- What the laws' calls read of the package's variables. -/
structure Env3 (w : World) : Prop where
  env : Env w
  keys : RefTab w
theorem env3_of {l : List (String × DataW Unit)} {W : World} (h : laidMetH Tryz.prog l W) (hs : W.ShapedOpen Tryz.prog)
    (h1 : l.filter (fun x => x.1 == "newsreel/sha.firstWords") = [("newsreel/sha.firstWords", Lib.tabData .u32 (ints ShaMath.init.list))] := by kernel_rfl)
    (h2 : l.filter (fun x => x.1 == "newsreel/sha.roundWords") = [("newsreel/sha.roundWords", Lib.tabData .u32 (ints ShaMath.keys))] := by kernel_rfl)
    (h3 : l.filter (fun x => x.1 == "newsreel/newsreelref1.keys") = [("newsreel/newsreelref1.keys", Lib.tabData .u32 (ints ShaMath.keys))] := by kernel_rfl) : Env3 W :=
  ⟨⟨tab_of_laid h h1 h2, maxLen_of_shape hs⟩, (tab3_of_laid h h1 h2 h3).2⟩
theorem env_of {l : List (String × DataW Unit)} {W : World} (h : laidMetH Tryz.prog l W) (hs : W.ShapedOpen Tryz.prog)
    (h1 : l.filter (fun x => x.1 == "newsreel/sha.firstWords") = [("newsreel/sha.firstWords", Lib.tabData .u32 (ints ShaMath.init.list))] := by kernel_rfl)
    (h2 : l.filter (fun x => x.1 == "newsreel/sha.roundWords") = [("newsreel/sha.roundWords", Lib.tabData .u32 (ints ShaMath.keys))] := by kernel_rfl) : Env W :=
  ⟨tab_of_laid h h1 h2, maxLen_of_shape hs⟩
/-- A world in which the tables lie as their initialisers lay them. -/
def layIn (cs : Array Value) (g : Nat) (h : Array Obj) : Array Obj := h.modify g fun
  | .cells _ t frozen => .cells cs t frozen
  | o => o
def laidWorld (W : World) : World :=
  { W with heap := layIn (u32s ShaMath.init.list).toArray 0 (layIn (u32s ShaMath.keys).toArray 1 (layIn (u32s ShaMath.keys).toArray 2 (layIn (Lib.firstTab.map (Value.int .u8)).toArray 4 (layIn ((List.range 16).flatMap fun i => [Value.int .u8 (Lib.accLo i : Int), Value.int .u8 (Lib.accHi i : Int)]).toArray 5 W.heap)))) }
end Go.Proofs.YteockpllnhjooaaGreatDoor
