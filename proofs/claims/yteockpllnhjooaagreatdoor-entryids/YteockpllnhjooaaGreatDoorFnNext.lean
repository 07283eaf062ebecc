/-
  Walk of newsreelref4.next, at every text.
-/
import Derived.Test.YteockpllnhjooaaGreatDoorFnNextA
import Derived.Test.YteockpllnhjooaaGreatDoorFnNextB
import Derived.Test.YteockpllnhjooaaGreatDoorFnNextC
namespace Go.Proofs.YteockpllnhjooaaGreatDoor
open Go.RowKit NumMath
set_option maxRecDepth 100000
set_option linter.unusedVariables false
set_option linter.unusedSimpArgs false

set_option maxRecDepth 100000 in
theorem next_plain (l : List Nat) (pos : Nat) (w : World) (hb : ∀ c ∈ l, c < 256) (hp : pos < l.length) (h1 : TxtMath.byteAt (l.drop pos) 0 < 192 ∨ 248 ≤ TxtMath.byteAt (l.drop pos) 0) :
    Calls Tryz.prog 62 #[.string (strN l), .int .i64 (pos : Int)] w fun e w' => e = .returned (.tuple #[.int .i64 (((TxtMath.dec (l.drop pos)).1 : Nat) : Int), .int .i64 (((TxtMath.dec (l.drop pos)).2 : Nat) : Int)]) ∧ w' = w := by
  have hsz := strN_size l
  have hix0 : ∀ w, (Instr.index 9 (.string (strN l)) (.int .i64 (pos : Int))).run Tryz.prog w = .ok (.int .u8 ((TxtMath.byteAt (l.drop pos) 0 : Nat) : Int)) w := by
    intro w; rw [index_strN l hb pos hp]; simp [TxtMath.byteAt]
  have HD1 : Hid (TxtMath.byteAt (l.drop pos) 0 < 128 → _) := fun h => TxtMath.dec_low h
  have HD2 : Hid ((128 ≤ TxtMath.byteAt (l.drop pos) 0 ∧ TxtMath.byteAt (l.drop pos) 0 < 192) ∨ 248 ≤ TxtMath.byteAt (l.drop pos) 0 → _) := fun h => TxtMath.dec_other h
  have hby : TxtMath.byteAt (l.drop pos) 0 < 256 := by
    unfold TxtMath.byteAt
    rcases h : (l.drop pos)[0]? with _ | c
    · simp
    · exact hb c (List.mem_of_mem_drop (List.mem_of_getElem? h))
  generalize l.drop pos = t at *
  generalize TxtMath.byteAt t 0 = c at *
  by_cases hc : c < 128
  · go_enter Tryz.func62, Tryz.ntmps62
    go_wp2
    go_ret2
    rw [HD1.out hc]
    exact ⟨rfl, rfl⟩
  · rcases h1 with h1 | h1
    all_goals
      go_enter Tryz.func62, Tryz.ntmps62
      go_wp2
      go_ret2
      rw [HD2.out (by omega)]
      exact ⟨rfl, rfl⟩
/-- next: the rune at a place and how many bytes it has. -/
theorem next_ref (l : List Nat) (pos : Nat) (w : World) (hb : ∀ c ∈ l, c < 256) (hp : pos < l.length) (hm : l.length ≤ 140737488355328) :
    Calls Tryz.prog 62 #[.string (strN l), .int .i64 (pos : Int)] w fun e w' => e = .returned (.tuple #[.int .i64 (((TxtMath.dec (l.drop pos)).1 : Nat) : Int), .int .i64 (((TxtMath.dec (l.drop pos)).2 : Nat) : Int)]) ∧ w' = w := by
  by_cases h1 : TxtMath.byteAt (l.drop pos) 0 < 192 ∨ 248 ≤ TxtMath.byteAt (l.drop pos) 0
  · exact next_plain l pos w hb hp h1
  · by_cases h2 : TxtMath.byteAt (l.drop pos) 0 < 224
    · exact next_two l pos w hb hp hm (by omega) h2
    · by_cases h3 : TxtMath.byteAt (l.drop pos) 0 < 240
      · exact next_three l pos w hb hp hm (by omega) h3
      · exact next_four l pos w hb hp hm (by omega) (by omega)
end Go.Proofs.YteockpllnhjooaaGreatDoor
