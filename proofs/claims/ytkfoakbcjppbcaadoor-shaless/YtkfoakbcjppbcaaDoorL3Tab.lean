/-
  What the listed variables give: the tables' cells. And a world in which they lie, for the witness.
-/
import Derived.Test.YtkfoakbcjppbcaaDoorFnStir
import Derived.Test.YtkfoakbcjppbcaaDoorFnPad
import Derived.Test.YtkfoakbcjppbcaaDoorCards
import Derived.Test.YtkfoakbcjppbcaaDoorTie
import Derived.Lib.LaidTab
import Derived.LaidSub
namespace Go.Proofs.YtkfoakbcjppbcaaDoor
open Go.RowKit
set_option linter.unusedVariables false

/-- The document's own table. -/
def RefTab (w : World) : Prop := ∀ i, i < 64 → w.cell? ⟨1, i, none⟩ = some (.int .u32 ((ShaMath.keys[i]?.getD 0 : Nat) : Int))
/-- All listed variables. -/
def Tabs3 (w : World) : Prop := Tabs w ∧ RefTab w
theorem RefTab.later {w w' : World} {B : Nat} (h : RefTab w) (hb : Below B w w') (hB : 2 < B) : RefTab w' := fun i hi => by
  rw [hb.cell (by show 1 < B; omega)]; exact h i hi

theorem gFirst : Tryd.prog.globalNamed "newsreel/sha.firstWords" = some 0 := by kernel_rfl
theorem gKeys : Tryd.prog.globalNamed "newsreel/newsreelref1.keys" = some 1 := by kernel_rfl
theorem gRound : Tryd.prog.globalNamed "newsreel/sha.roundWords" = some 2 := by kernel_rfl
theorem tFirst : (Tryd.prog.globals[0]?).map (·.type) = some 47 := by kernel_rfl
theorem tKeys : (Tryd.prog.globals[1]?).map (·.type) = some 58 := by kernel_rfl
theorem tRound : (Tryd.prog.globals[2]?).map (·.type) = some 58 := by kernel_rfl
theorem cells47 : Tryd.prog.cellsOf 47 = 8 := by kernel_rfl
theorem cells58 : Tryd.prog.cellsOf 58 = 64 := by kernel_rfl
theorem cells46 : Tryd.prog.cellsOf 46 = 1 := by kernel_rfl

theorem ints_at (l : List Nat) (i : Nat) (h : i < l.length) : (ints l).getD i 0 = ((l[i]?.getD 0 : Nat) : Int) := by simp [ints, h]

theorem tab_of_laid {l : List (String × DataW Unit)} {W : World} (h : laidMetH Tryd.prog l W)
    (h1 : l.filter (fun x => x.1 == "newsreel/sha.firstWords") = [("newsreel/sha.firstWords", Lib.tabData .u32 (ints ShaMath.init.list))] := by kernel_rfl)
    (h2 : l.filter (fun x => x.1 == "newsreel/sha.roundWords") = [("newsreel/sha.roundWords", Lib.tabData .u32 (ints ShaMath.keys))] := by kernel_rfl) : Tabs W := by
  have a1 := h.filter (fun x => x.1 == "newsreel/sha.firstWords")
  have a2 := h.filter (fun x => x.1 == "newsreel/sha.roundWords")
  rw [h1] at a1
  rw [h2] at a2
  have t1 : Lib.TabIs Tryd.prog W "newsreel/sha.firstWords" .u32 (ints ShaMath.init.list) := Lib.tabIs_of_head (rest := []) gFirst tFirst Tryd.underlying47 Tryd.underlying46 cells46 cells47 a1
  have t2 : Lib.TabIs Tryd.prog W "newsreel/sha.roundWords" .u32 (ints ShaMath.keys) := Lib.tabIs_of_head (rest := []) gRound tRound Tryd.underlying58 Tryd.underlying46 cells46 cells58 a2
  refine ⟨fun i hi => ?_, fun i hi => ?_⟩
  · rw [t1.cell gFirst i (by rw [ints_len]; exact hi), ints_at _ _ hi]
  · rw [t2.cell gRound i (by rw [ints_len, keys_len]; exact hi), ints_at _ _ (by rw [keys_len]; exact hi)]
theorem tab3_of_laid {l : List (String × DataW Unit)} {W : World} (h : laidMetH Tryd.prog l W)
    (h1 : l.filter (fun x => x.1 == "newsreel/sha.firstWords") = [("newsreel/sha.firstWords", Lib.tabData .u32 (ints ShaMath.init.list))] := by kernel_rfl)
    (h2 : l.filter (fun x => x.1 == "newsreel/sha.roundWords") = [("newsreel/sha.roundWords", Lib.tabData .u32 (ints ShaMath.keys))] := by kernel_rfl)
    (h3 : l.filter (fun x => x.1 == "newsreel/newsreelref1.keys") = [("newsreel/newsreelref1.keys", Lib.tabData .u32 (ints ShaMath.keys))] := by kernel_rfl) : Tabs3 W := by
  refine ⟨tab_of_laid h h1 h2, fun i hi => ?_⟩
  have a := h.filter (fun x => x.1 == "newsreel/newsreelref1.keys")
  rw [h3] at a
  have t : Lib.TabIs Tryd.prog W "newsreel/newsreelref1.keys" .u32 (ints ShaMath.keys) := Lib.tabIs_of_head (rest := []) gKeys tKeys Tryd.underlying58 Tryd.underlying46 cells46 cells58 a
  rw [t.cell gKeys i (by rw [ints_len, keys_len]; exact hi), ints_at _ _ (by rw [keys_len]; exact hi)]

/-- A world in which the tables lie as their initialisers lay them. -/
noncomputable def layIn (cs : Array Value) (g : Nat) (h : Array Obj) : Array Obj := h.modify g fun
  | .cells _ t frozen => .cells cs t frozen
  | o => o
noncomputable def laidWorld (os : Os) : World :=
  { World.holding Tryd.prog os ⟨#[], #[], []⟩ with heap := layIn (u32s ShaMath.init.list).toArray 0 (layIn (u32s ShaMath.keys).toArray 1 (layIn (u32s ShaMath.keys).toArray 2 (World.holding Tryd.prog os ⟨#[], #[], []⟩).heap)) }
end Go.Proofs.YtkfoakbcjppbcaaDoor
