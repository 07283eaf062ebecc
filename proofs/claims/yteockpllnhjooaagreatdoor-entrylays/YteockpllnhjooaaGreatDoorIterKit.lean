/-
  A range over a string of bytes: what 'next' answers; what is kept meanwhile.
-/
import Derived.Test.YteockpllnhjooaaGreatDoorStrKit
import Derived.Test.YteockpllnhjooaaGreatDoorTxtLaws
import Derived.LoopTactic
namespace Go.Proofs.YteockpllnhjooaaGreatDoor
open Go.RowKit NumMath
set_option maxRecDepth 100000
set_option linter.unusedVariables false
set_option linter.unusedSimpArgs false

/-- Block g is an iterator over l that stands at pos. -/
def Iter (w : World) (g : Nat) (l : List Nat) (pos : Nat) : Prop := w.heap[g]? = some (.stringIter (strN l) pos)
theorem Iter.lt {w : World} {g : Nat} {l : List Nat} {pos : Nat} (h : Iter w g l pos) : g < w.heap.size := (Array.getElem?_eq_some_iff.1 h).1
theorem Iter.pos {w : World} {g : Nat} {l : List Nat} {pos : Nat} (h : Iter w g l pos) : w.iterPos g = pos := by
  unfold World.iterPos; rw [h]
theorem Iter.below {w w' : World} {g B : Nat} {l : List Nat} {pos : Nat} (h : Iter w g l pos) (hb : Below B w w') (hg : g < B) : Iter w' g l pos := by
  unfold Iter; rw [hb.block g hg]; exact h
theorem Iter.new (w : World) (l : List Nat) (g : Nat) (hg : g = w.heap.size) : Iter (w.alloc (.stringIter (strN l) 0)) g l 0 := by
  subst hg
  exact World.iter_heap w (strN l) 0
theorem Iter.set {w : World} {g : Nat} {l : List Nat} {pos : Nat} (h : Iter w g l pos) (p : Nat) : Iter (w.iterAt g (strN l) p) g l p := Lib.iterAt_heap w g (strN l) pos p h
/-- A rune is at hand. -/
theorem next_some {w : World} {g : Nat} {l : List Nat} {pos : Nat} (h : Iter w g l pos) (hb : ∀ c ∈ l, c < 256) (hp : pos < l.length) :
    ∃ r n : Nat, (∀ ty, (Instr.next (.pointer (some ⟨g, 0, none⟩)) true ty).run Tryz.prog w = .ok (.tuple #[.bool true, .int .i64 (pos : Int), .int .i32 (r : Int)]) (w.iterAt g (strN l) (pos + n))) ∧
      TxtMath.valid r = true ∧ r ≤ 1114111 ∧ 1 ≤ n ∧ pos + n ≤ l.length ∧ TxtMath.runes (l.drop pos) = r :: TxtMath.runes (l.drop (pos + n)) ∧ TxtMath.dec (l.drop pos) = (r, n) := by
  refine ⟨(TxtMath.dec (l.drop pos)).1, (TxtMath.dec (l.drop pos)).2, ?_, TxtMath.dec_valid _, TxtMath.valid_le (TxtMath.dec_valid _), (TxtMath.dec_pos _).1, ?_, TxtMath.runes_at l pos hp, rfl⟩
  · intro ty
    rw [Lib.run_next_any_at w g (strN l) pos ty h (by rw [strN_size]; exact hp), dec_strN l hb pos hp]
  · have hne : l.drop pos ≠ [] := by intro e; have := congrArg List.length e; simp at this; omega
    have := TxtMath.dec_le (l.drop pos) hne
    simp at this; omega
/-- The text is through. -/
theorem next_none {w : World} {g : Nat} {l : List Nat} {pos : Nat} (h : Iter w g l pos) (hp : ¬ pos < l.length) :
    ∀ ty, (Instr.next (.pointer (some ⟨g, 0, none⟩)) true ty).run Tryz.prog w = .ok (.tuple #[.bool false]) w := by
  intro ty
  exact Lib.run_next_end_at w g (strN l) pos ty h (by rw [strN_size]; exact hp)
end Go.Proofs.YteockpllnhjooaaGreatDoor
