/-
  IterKit, FnRunes.
-/
import Derived.Test.YteockpllnhjooaaGreatDoorQC06
import Derived.Test.YteockpllnhjooaaGreatDoorQC01
import Derived.LoopTactic
namespace Go.Proofs.YteockpllnhjooaaGreatDoor
open Go.RowKit NumMath
set_option maxRecDepth 100000
set_option linter.unusedVariables false
set_option linter.unusedSimpArgs false

/-- Block g is an iterator over l that stands at pos. -/
def Iter (w : World) (g : Nat) (l : List Nat) (pos : Nat) : Prop := w.heap[g]? = some (.stringIter (strN l) pos)
theorem Iter.lt {w : World} {g : Nat} {l : List Nat} {pos : Nat} (h : Iter w g l pos) : g < w.heap.size := (Array.getElem?_eq_some_iff.1 h).1
theorem Iter.pos {w : World} {g : Nat} {l : List Nat} {pos : Nat} (h : Iter w g l pos) : w.iterPos g = pos := by
  unfold World.iterPos; rw [h]
theorem Iter.below {w w' : World} {g B : Nat} {l : List Nat} {pos : Nat} (h : Iter w g l pos) (hb : Below B w w') (hg : g < B) : Iter w' g l pos := by
  unfold Iter; rw [hb.block g hg]; exact h
theorem Iter.new (w : World) (l : List Nat) (g : Nat) (hg : g = w.heap.size) : Iter (w.alloc (.stringIter (strN l) 0)) g l 0 := by
  subst hg
  exact World.iter_heap w (strN l) 0
theorem Iter.set {w : World} {g : Nat} {l : List Nat} {pos : Nat} (h : Iter w g l pos) (p : Nat) : Iter (w.iterAt g (strN l) p) g l p := Lib.iterAt_heap w g (strN l) pos p h
/-- A rune is at hand. -/
theorem next_some {w : World} {g : Nat} {l : List Nat} {pos : Nat} (h : Iter w g l pos) (hb : ∀ c ∈ l, c < 256) (hp : pos < l.length) :
    ∃ r n : Nat, (∀ ty, (Instr.next (.pointer (some ⟨g, 0, none⟩)) true ty).run Tryz.prog w = .ok (.tuple #[.bool true, .int .i64 (pos : Int), .int .i32 (r : Int)]) (w.iterAt g (strN l) (pos + n))) ∧
      TxtMath.valid r = true ∧ r ≤ 1114111 ∧ 1 ≤ n ∧ pos + n ≤ l.length ∧ TxtMath.runes (l.drop pos) = r :: TxtMath.runes (l.drop (pos + n)) ∧ TxtMath.dec (l.drop pos) = (r, n) := by
  refine ⟨(TxtMath.dec (l.drop pos)).1, (TxtMath.dec (l.drop pos)).2, ?_, TxtMath.dec_valid _, TxtMath.valid_le (TxtMath.dec_valid _), (TxtMath.dec_pos _).1, ?_, TxtMath.runes_at l pos hp, rfl⟩
  · intro ty
    rw [Lib.run_next_any_at w g (strN l) pos ty h (by rw [strN_size]; exact hp), dec_strN l hb pos hp]
  · have hne : l.drop pos ≠ [] := by intro e; have := congrArg List.length e; simp at this; omega
    have := TxtMath.dec_le (l.drop pos) hne
    simp at this; omega
/-- The text is through. -/
theorem next_none {w : World} {g : Nat} {l : List Nat} {pos : Nat} (h : Iter w g l pos) (hp : ¬ pos < l.length) :
    ∀ ty, (Instr.next (.pointer (some ⟨g, 0, none⟩)) true ty).run Tryz.prog w = .ok (.tuple #[.bool false]) w := by
  intro ty
  exact Lib.run_next_end_at w g (strN l) pos ty h (by rw [strN_size]; exact hp)
end Go.Proofs.YteockpllnhjooaaGreatDoor
namespace Go.Proofs.YteockpllnhjooaaGreatDoor
open Go.RowKit NumMath
set_option maxRecDepth 100000
set_option linter.unusedVariables false
set_option linter.unusedSimpArgs false

set_option maxHeartbeats 2000000 in
theorem runes_any (l : List Nat) (w : World) (hb : ∀ c ∈ l, c < 256) (hm : 4 * l.length + 8 ≤ 140737488355328) :
    Calls Tryz.prog 29 #[.string (strN l)] w fun e w' => e = .returned (.int .i64 (((TxtMath.runes l).length : Nat) : Int)) ∧ Below w.heap.size w w' := by
  have HI0 : Hid (Iter (w.alloc (.stringIter (strN l) 0)) w.heap.size l 0) := Iter.new w l _ rfl
  have HB0 : Hid (Below w.heap.size w (w.alloc (.stringIter (strN l) 0))) := (Below.refl _ w).alloc (Nat.le_refl _) _
  go_enter Tryz.func29, Tryz.ntmps29
  go_wp2
  go_loopw [3] (fun v wr => ∃ k pos : Nat, v = .int .i64 (k : Int) ∧ Iter wr w.heap.size l pos ∧ Below w.heap.size w wr ∧ k + (TxtMath.runes (l.drop pos)).length = (TxtMath.runes l).length) (fun _ wr => l.length - wr.iterPos w.heap.size)
  case atStart => exact ⟨0, 0, rfl, HI0.out, HB0.out, by simp⟩
  case round =>
    obtain ⟨k, pos, rfl, hit, hbw, hk⟩ := hrel
    have hkl := TxtMath.runes_len_le l
    have hlt := hit.lt
    have HIT : Hid _ := hit
    have HBW : Hid _ := hbw
    have HK : Hid _ := hk
    by_cases hp : pos < l.length
    · obtain ⟨r, n, hnx, hv, hr, hn, hpn, hru, hdec⟩ := next_some hit hb hp
      have hk1 : k + 1 ≤ 9223372036854775807 := by have := hk; rw [hru] at this; simp at this; omega
      have HRU : Hid _ := hru
      have HI2 : Hid _ := hit.set (pos + n)
      have HB2 : Hid _ := Lib.below_iterAt hbw (k := w.heap.size) (Nat.le_refl _) (strN l) (pos + n)
      have HN : Hid _ := hn
      clear hk hit hbw hru hdec
      go_wp2
      go_roundw
      case rel =>
        refine ⟨k + 1, pos + n, by simp, HI2.out, HB2.out, ?_⟩
        have := HK.out; rw [HRU.out] at this; simp at this; omega
      case measure =>
        rw [Iter.pos HI2.out, Iter.pos HIT.out]
        have := HN.out; omega
    · have hnx := next_none (l := l) hit hp
      clear hk hit hbw
      go_wp2
      go_ret
      refine ⟨ret_int ?_, HBW.out⟩
      have := HK.out
      rw [TxtMath.runes_end l pos hp] at this
      simp at this; omega
end Go.Proofs.YteockpllnhjooaaGreatDoor
