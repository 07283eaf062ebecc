/-
  Walk of text.Fold.
-/
import Derived.Test.YtpffjeoiacaihaaDoorFnClean
namespace Go.Proofs.YtpffjeoiacaihaaDoor
open Go.RowKit NumMath
set_option maxRecDepth 100000
set_option linter.unusedVariables false
set_option linter.unusedSimpArgs false

set_option maxRecDepth 100000 in
set_option maxHeartbeats 4000000 in
theorem fold_any (l : List Nat) (w : World) (hb : ∀ c ∈ l, c < 256) (hm : 4 * l.length + 8 ≤ 140737488355328) :
    Calls Tryd.prog 36 #[.string (strN l)] w fun e w' => e = .returned (.string (strN (TxtMath.foldB l))) ∧ Below w.heap.size w w' := by
  have HI0 : Hid (Iter ((w.alloc (.cells #[.pointer none, .slice none 0 0] 68)).alloc (.stringIter (strN l) 0)) (w.heap.size + 1) l 0) := Iter.new _ l _ (by simp)
  have HB0 : Hid (Below w.heap.size w ((w.alloc (.cells #[.pointer none, .slice none 0 0] 68)).alloc (.stringIter (strN l) 0))) := ((Below.refl _ w).alloc (Nat.le_refl _) _).alloc (by simp) _
  have HD0 : Hid (Bld ((w.alloc (.cells #[.pointer none, .slice none 0 0] 68)).alloc (.stringIter (strN l) 0)) w.heap.size []) := (Lib.IsBuilderF.of (Lib.fresh_isBuilder 68 5 w)).alloc _
  go_enter Tryd.func36, Tryd.ntmps36
  go_wp2
  go_loopw [] (fun wr => ∃ (pos : Nat) (acc : List Nat), Bld wr w.heap.size (TxtMath.encs (acc.map TxtMath.low)) ∧ Iter wr (w.heap.size + 1) l pos ∧ Below w.heap.size w wr ∧ acc ++ TxtMath.runes (l.drop pos) = TxtMath.runes l) (fun wr => l.length - wr.iterPos (w.heap.size + 1))
  case atStart => exact ⟨0, [], HD0.out, HI0.out, HB0.out, by simp⟩
  case round =>
    clear HI0 HB0 HD0
    obtain ⟨pos, acc, hD, hit, hbw, hacc⟩ := hrel
    have hal : acc.length ≤ l.length := by
      have h1 := congrArg List.length hacc
      have h3 := TxtMath.runes_len_le l
      simp at h1; omega
    have hel := TxtMath.encs_len_le (acc.map TxtMath.low)
    rw [List.length_map] at hel
    have hlt := hit.lt
    have HIT : Hid _ := hit
    have HBW : Hid _ := hbw
    have HA : Hid _ := hacc
    by_cases hp : pos < l.length
    · obtain ⟨r, n, hnx, hv, hr, hn, hpn, hru, hdec⟩ := next_some hit hb hp
      have HRU : Hid _ := hru
      have HI2 : Hid _ := hit.set (pos + n)
      have HB2 : Hid _ := Lib.below_iterAt hbw (k := w.heap.size + 1) (by omega) (strN l) (pos + n)
      have HD2 : Hid _ := hD.iterAt hit (pos + n)
      have HN : Hid _ := hn
      have HV : Hid _ := TxtMath.low_valid r hv
      have hsz : w.heap.size + 1 < (wr.iterAt (w.heap.size + 1) (strN l) (pos + n)).heap.size := by rw [Lib.iterAt_size]; exact hlt
      clear hacc hit hbw hru hdec hD hv
      have HM : Hid (l.length - (pos + n) < l.length - wr.iterPos (w.heap.size + 1)) := by
        show _ < _; rw [Iter.pos HIT.out]; have := HN.out; omega
      generalize wr.iterAt (w.heap.size + 1) (strN l) (pos + n) = w1 at *
      clear hn
      go_wp2_with (go_at_call 57; refine (folded_any r _ hr).mono ?_; rintro e w2 ⟨rfl, rfl⟩)
      refine (write_bld HD2.out HV.out (by omega) (by omega)).mono ?_
      rintro e w2 ⟨k, rfl, h1, h2, h3⟩
      have HD3 : Hid _ := h1
      have HI3 : Hid _ := Iter.others HI2.out h3 (by omega)
      have HB3 : Hid _ := HB2.out.trans h2
      clear h1 h2 h3
      go_wp2
      go_roundw
      case rel =>
        refine ⟨pos + n, acc ++ [r], ?_, HI3.out, HB3.out, ?_⟩
        · rw [List.map_append, TxtMath.encs_append]
          rw [show TxtMath.encs ([r].map TxtMath.low) = TxtMath.enc (TxtMath.low r) by simp [TxtMath.encs]]
          exact HD3.out
        · rw [← HA.out, HRU.out]; simp
      case measure => rw [Iter.pos HI3.out]; exact HM.out
    · have hnx := next_none (l := l) hit hp
      have HD : Hid _ := hD
      clear hacc hit hbw hD
      go_wp2_with fail
      refine (str_bld HD.out (by omega)).mono ?_
      rintro e w2 ⟨rfl, h2⟩
      have HB3 : Hid _ := HBW.out.trans h2
      clear h2
      go_wp2
      go_ret
      have := HA.out
      rw [TxtMath.runes_end l pos hp] at this
      simp at this
      rw [this]
      exact ⟨rfl, HB3.out⟩
end Go.Proofs.YtpffjeoiacaihaaDoor
