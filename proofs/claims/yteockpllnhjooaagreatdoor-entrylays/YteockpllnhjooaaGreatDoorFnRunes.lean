/-
  Walk of text.Runes.
-/
import Derived.Test.YteockpllnhjooaaGreatDoorIterKit
namespace Go.Proofs.YteockpllnhjooaaGreatDoor
open Go.RowKit NumMath
set_option maxRecDepth 100000
set_option linter.unusedVariables false
set_option linter.unusedSimpArgs false

set_option maxHeartbeats 2000000 in
theorem runes_any (l : List Nat) (w : World) (hb : ∀ c ∈ l, c < 256) (hm : 4 * l.length + 8 ≤ 140737488355328) :
    Calls Tryz.prog 29 #[.string (strN l)] w fun e w' => e = .returned (.int .i64 (((TxtMath.runes l).length : Nat) : Int)) ∧ Below w.heap.size w w' := by
  have HI0 : Hid (Iter (w.alloc (.stringIter (strN l) 0)) w.heap.size l 0) := Iter.new w l _ rfl
  have HB0 : Hid (Below w.heap.size w (w.alloc (.stringIter (strN l) 0))) := (Below.refl _ w).alloc (Nat.le_refl _) _
  go_enter Tryz.func29, Tryz.ntmps29
  go_wp2
  go_loopw [3] (fun v wr => ∃ k pos : Nat, v = .int .i64 (k : Int) ∧ Iter wr w.heap.size l pos ∧ Below w.heap.size w wr ∧ k + (TxtMath.runes (l.drop pos)).length = (TxtMath.runes l).length) (fun _ wr => l.length - wr.iterPos w.heap.size)
  case atStart => exact ⟨0, 0, rfl, HI0.out, HB0.out, by simp⟩
  case round =>
    obtain ⟨k, pos, rfl, hit, hbw, hk⟩ := hrel
    have hkl := TxtMath.runes_len_le l
    have hlt := hit.lt
    have HIT : Hid _ := hit
    have HBW : Hid _ := hbw
    have HK : Hid _ := hk
    by_cases hp : pos < l.length
    · obtain ⟨r, n, hnx, hv, hr, hn, hpn, hru, hdec⟩ := next_some hit hb hp
      have hk1 : k + 1 ≤ 9223372036854775807 := by have := hk; rw [hru] at this; simp at this; omega
      have HRU : Hid _ := hru
      have HI2 : Hid _ := hit.set (pos + n)
      have HB2 : Hid _ := Lib.below_iterAt hbw (k := w.heap.size) (Nat.le_refl _) (strN l) (pos + n)
      have HN : Hid _ := hn
      clear hk hit hbw hru hdec
      go_wp2
      go_roundw
      case rel =>
        refine ⟨k + 1, pos + n, by simp, HI2.out, HB2.out, ?_⟩
        have := HK.out; rw [HRU.out] at this; simp at this; omega
      case measure =>
        rw [Iter.pos HI2.out, Iter.pos HIT.out]
        have := HN.out; omega
    · have hnx := next_none (l := l) hit hp
      clear hk hit hbw
      go_wp2
      go_ret
      refine ⟨ret_int ?_, HBW.out⟩
      have := HK.out
      rw [TxtMath.runes_end l pos hp] at this
      simp at this; omega
end Go.Proofs.YteockpllnhjooaaGreatDoor
