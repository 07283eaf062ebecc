/-
  Walk of text.Clean.
-/
import Derived.Test.YteockpllnhjooaaGreatDoorIterKit
import Derived.Test.YteockpllnhjooaaGreatDoorFnBuild
import Derived.Test.YteockpllnhjooaaGreatDoorFnLeaf
namespace Go.Proofs.YteockpllnhjooaaGreatDoor
open Go.RowKit NumMath
set_option maxRecDepth 100000
set_option linter.unusedVariables false
set_option linter.unusedSimpArgs false

/-- A builder in block g that holds these bytes. -/
def Bld (w : World) (g : Nat) (l : List Nat) : Prop := Lib.IsBuilderF 93 5 g g (cellsN l) w
/-- What a writer hands back. -/
theorem write_bld {B : Nat} {acc : List Nat} {r : Nat} {w : World} (h : Bld w B acc) (hv : TxtMath.valid r = true) (hl : acc.length + 4 ≤ 140737488355328) (hB : B ≤ w.heap.size) :
    Calls Tryz.prog 54 #[.pointer (some ⟨B, 0, none⟩), .int .i32 (r : Int)] w fun e w' => ∃ k : Int, e = .returned (.tuple #[.int .i64 k, .nilIface]) ∧ Bld w' B (acc ++ TxtMath.enc r) ∧ Below B w w' ∧ Lib.OthersKept 5 (some B) w w' := by
  have hr := TxtMath.valid_le hv
  refine (writeRune_any B B (cellsN acc) (r : Int) (by omega) (by omega) w h (by rw [cellsN_len]; exact hl) hB).mono ?_
  rintro e w' ⟨rfl, h1, h2, h3⟩
  refine ⟨_, rfl, Or.inr ?_, h2, h3⟩
  rw [cellsN_append, ← cellsN_enc r hv]
  exact h1
theorem len_bld {B : Nat} {acc : List Nat} {w : World} (h : Bld w B acc) :
    Calls Tryz.prog 53 #[.pointer (some ⟨B, 0, none⟩)] w fun e w' => e = .returned (.int .i64 ((acc.length : Nat) : Int)) ∧ w' = w := by
  have := Builder_Len_f B B (cellsN acc) w h
  rwa [cellsN_len] at this
theorem str_bld {B : Nat} {acc : List Nat} {w : World} (h : Bld w B acc) (hB : B ≤ w.heap.size) :
    Calls Tryz.prog 55 #[.pointer (some ⟨B, 0, none⟩)] w fun e w' => e = .returned (.string (strN acc)) ∧ Below B w w' := by
  refine (Builder_String_any_k B B (acc.map fun n => UInt8.ofNat n) w h hB).mono ?_
  rintro e w' ⟨rfl, _, h2, _⟩
  exact ⟨rfl, h2⟩
theorem Bld.iterAt {w : World} {B : Nat} {acc : List Nat} (h : Bld w B acc) {g : Nat} {l : List Nat} {pos : Nat} (hk : Iter w g l pos) (p : Nat) : Bld (w.iterAt g (strN l) p) B acc := Lib.IsBuilderF.iterAt h hk p
theorem Iter.others {w w' : World} {B g : Nat} {l : List Nat} {pos : Nat} (h : Iter w g l pos) (k : Lib.OthersKept 5 (some B) w w') (hg : g ≠ B) : Iter w' g l pos := Lib.OthersKept.iter k h hg

set_option maxRecDepth 100000 in
set_option maxHeartbeats 4000000 in
theorem clean_any (l : List Nat) (w : World) (hb : ∀ c ∈ l, c < 256) (hm : 4 * l.length + 8 ≤ 140737488355328) :
    Calls Tryz.prog 28 #[.string (strN l)] w fun e w' => e = .returned (.string (strN (TxtMath.cleanB l))) ∧ Below w.heap.size w w' := by
  have HI0 : Hid (Iter ((w.alloc (.cells #[.pointer none, .slice none 0 0] 93)).alloc (.stringIter (strN l) 0)) (w.heap.size + 1) l 0) := Iter.new _ l _ (by simp)
  have HB0 : Hid (Below w.heap.size w ((w.alloc (.cells #[.pointer none, .slice none 0 0] 93)).alloc (.stringIter (strN l) 0))) := ((Below.refl _ w).alloc (Nat.le_refl _) _).alloc (by simp) _
  have HD0 : Hid (Bld ((w.alloc (.cells #[.pointer none, .slice none 0 0] 93)).alloc (.stringIter (strN l) 0)) w.heap.size []) := (Lib.IsBuilderF.of (Lib.fresh_isBuilder 93 5 w)).alloc _
  go_enter Tryz.func28, Tryz.ntmps28
  go_wp2
  go_loopw [4] (fun v wr => ∃ (gap : Bool) (pos : Nat) (acc : List Nat), v = .bool gap ∧ Bld wr w.heap.size (TxtMath.encs acc) ∧ Iter wr (w.heap.size + 1) l pos ∧ Below w.heap.size w wr ∧ acc ++ TxtMath.cleanGo gap (!acc.isEmpty) (TxtMath.runes (l.drop pos)) = TxtMath.clean (TxtMath.runes l)) (fun _ wr => l.length - wr.iterPos (w.heap.size + 1))
  case atStart => exact ⟨false, 0, [], rfl, HD0.out, HI0.out, HB0.out, by simp [TxtMath.clean]⟩
  case round =>
    clear HI0 HB0 HD0
    obtain ⟨gap, pos, acc, rfl, hD, hit, hbw, hacc⟩ := hrel
    have hal : acc.length ≤ l.length := by
      have h1 := congrArg List.length hacc
      have h2 := TxtMath.clean_len (TxtMath.runes l)
      have h3 := TxtMath.runes_len_le l
      simp at h1; omega
    have hel := TxtMath.encs_len_le acc
    have hlt := hit.lt
    have HIT : Hid _ := hit
    have HBW : Hid _ := hbw
    have HA : Hid _ := hacc
    by_cases hp : pos < l.length
    · obtain ⟨r, n, hnx, hv, hr, hn, hpn, hru, hdec⟩ := next_some hit hb hp
      have HRU : Hid _ := hru
      have HI2 : Hid _ := hit.set (pos + n)
      have HB2 : Hid _ := Lib.below_iterAt hbw (k := w.heap.size + 1) (by omega) (strN l) (pos + n)
      have HD2 : Hid _ := hD.iterAt hit (pos + n)
      have HN : Hid _ := hn
      have HV : Hid _ := hv
      have hsz : w.heap.size + 1 < (wr.iterAt (w.heap.size + 1) (strN l) (pos + n)).heap.size := by rw [Lib.iterAt_size]; exact hlt
      clear hacc hit hbw hru hdec hD hv
      have HM : Hid (l.length - (pos + n) < l.length - wr.iterPos (w.heap.size + 1)) := by
        show _ < _; rw [Iter.pos HIT.out]; have := HN.out; omega
      generalize wr.iterAt (w.heap.size + 1) (strN l) (pos + n) = w1 at *
      clear hn
      cases hw : TxtMath.white r with
      | true =>
        go_wp2_with (go_at_call 51; refine (isWhite_any r _ hr).mono ?_; rintro e w2 ⟨rfl, rfl⟩)
        go_roundw
        case rel =>
          refine ⟨true, pos + n, acc, rfl, HD2.out, HI2.out, HB2.out, ?_⟩
          rw [← HA.out, HRU.out, TxtMath.cleanGo, if_pos hw]
        case measure => rw [Iter.pos HI2.out]; exact HM.out
      | false =>
        have hba := bare_is r hw
        cases hbp : bareP r with
        | true =>
          have HBA : Hid (TxtMath.bare r = true) := by show _ = _; rw [hba, hbp]
          clear hba
          go_wp2_with (first | (go_at_call 51; refine (isWhite_any r _ hr).mono ?_; rintro e w2 ⟨rfl, rfl⟩) | (go_at_call 52; refine (isBare_any r _ hr).mono ?_; rintro e w2 ⟨rfl, rfl⟩))
          go_roundw
          case rel =>
            refine ⟨gap, pos + n, acc, rfl, HD2.out, HI2.out, HB2.out, ?_⟩
            rw [← HA.out, HRU.out, TxtMath.cleanGo, if_neg (by rw [hw]; decide), if_pos HBA.out]
          case measure => rw [Iter.pos HI2.out]; exact HM.out
        | false =>
          have HBA : Hid (TxtMath.bare r = false) := by show _ = _; rw [hba, hbp]
          clear hba
          have HST : Hid (∀ g e, TxtMath.cleanGo g e (r :: TxtMath.runes (l.drop (pos + n))) = (if (g && e) = true then [32] else []) ++ r :: TxtMath.cleanGo false true (TxtMath.runes (l.drop (pos + n)))) := by
            intro g e; rw [TxtMath.cleanGo, if_neg (by rw [hw]; decide), if_neg (by rw [HBA.out]; decide)]
          cases gap with
          | false =>
            go_wp2_with (first | (go_at_call 51; refine (isWhite_any r _ hr).mono ?_; rintro e w2 ⟨rfl, rfl⟩) | (go_at_call 52; refine (isBare_any r _ hr).mono ?_; rintro e w2 ⟨rfl, rfl⟩))
            refine (write_bld HD2.out HV.out (by omega) (by omega)).mono ?_
            rintro e w2 ⟨k, rfl, h1, h2, h3⟩
            have HD3 : Hid _ := h1
            have HI3 : Hid _ := Iter.others HI2.out h3 (by omega)
            have HB3 : Hid _ := HB2.out.trans h2
            clear h1 h2 h3
            go_wp2
            go_roundw
            case rel =>
              refine ⟨false, pos + n, acc ++ [r], rfl, ?_, HI3.out, HB3.out, ?_⟩
              · rw [TxtMath.encs_append, TxtMath.encs_one]; exact HD3.out
              · have e : (acc ++ [r]).isEmpty = false := by cases acc <;> rfl
                rw [← HA.out, HRU.out, HST.out, e]; simp
            case measure => rw [Iter.pos HI3.out]; exact HM.out
          | true =>
            by_cases hne : acc = []
            · subst hne
              go_wp2_with (first | (go_at_call 51; refine (isWhite_any r _ hr).mono ?_; rintro e w2 ⟨rfl, rfl⟩) | (go_at_call 52; refine (isBare_any r _ hr).mono ?_; rintro e w2 ⟨rfl, rfl⟩) | (go_at_call 53; refine (len_bld HD2.out).mono ?_; rintro e w2 ⟨rfl, rfl⟩))
              refine (write_bld HD2.out HV.out (by omega) (by omega)).mono ?_
              rintro e w2 ⟨k, rfl, h1, h2, h3⟩
              have HD3 : Hid _ := h1
              have HI3 : Hid _ := Iter.others HI2.out h3 (by omega)
              have HB3 : Hid _ := HB2.out.trans h2
              clear h1 h2 h3
              go_wp2
              go_roundw
              case rel =>
                refine ⟨false, pos + n, [r], rfl, ?_, HI3.out, HB3.out, ?_⟩
                · rw [show TxtMath.encs [r] = TxtMath.encs [] ++ TxtMath.enc r by simp [TxtMath.encs]]; exact HD3.out
                · rw [← HA.out, HRU.out, HST.out]; simp
              case measure => rw [Iter.pos HI3.out]; exact HM.out
            · have hpos : 0 < (TxtMath.encs acc).length := by
                have := TxtMath.encs_len_ge acc
                have : 0 < acc.length := List.length_pos_iff.2 hne
                omega
              have HNE : Hid _ := hne
              go_wp2_with (first | (go_at_call 51; refine (isWhite_any r _ hr).mono ?_; rintro e w2 ⟨rfl, rfl⟩) | (go_at_call 52; refine (isBare_any r _ hr).mono ?_; rintro e w2 ⟨rfl, rfl⟩) | (go_at_call 53; refine (len_bld HD2.out).mono ?_; rintro e w2 ⟨rfl, rfl⟩))
              refine (write_bld (r := 32) HD2.out (by decide) (by omega) (by omega)).mono ?_
              rintro e w2 ⟨k, rfl, h1, h2, h3⟩
              have HD3 : Hid _ := h1
              have HI3 : Hid _ := Iter.others HI2.out h3 (by omega)
              have HB3 : Hid _ := HB2.out.trans h2
              have hs2 := Iter.lt HI3.out
              clear h1 h2 h3
              go_wp2_with fail
              refine (write_bld HD3.out HV.out (by simp [TxtMath.enc]; omega) (by omega)).mono ?_
              rintro e w3 ⟨k, rfl, h1, h2, h3⟩
              have HD4 : Hid _ := h1
              have HI4 : Hid _ := Iter.others HI3.out h3 (by omega)
              have HB4 : Hid _ := HB3.out.trans h2
              clear h1 h2 h3
              go_wp2
              go_roundw
              case rel =>
                refine ⟨false, pos + n, acc ++ [32, r], rfl, ?_, HI4.out, HB4.out, ?_⟩
                · rw [TxtMath.encs_append, TxtMath.encs_cons, TxtMath.encs_one, ← List.append_assoc]; exact HD4.out
                · have e : acc.isEmpty = false := by simpa using HNE.out
                  have e2 : (acc ++ [32, r]).isEmpty = false := by cases acc <;> rfl
                  rw [← HA.out, HRU.out, HST.out, e, e2]; simp
              case measure => rw [Iter.pos HI4.out]; exact HM.out
    · have hnx := next_none (l := l) hit hp
      have HD : Hid _ := hD
      clear hacc hit hbw hD
      go_wp2_with fail
      refine (str_bld HD.out (by omega)).mono ?_
      rintro e w2 ⟨rfl, h2⟩
      have HB3 : Hid _ := HBW.out.trans h2
      clear h2
      go_wp2
      go_ret
      have := HA.out
      rw [TxtMath.runes_end l pos hp] at this
      simp [TxtMath.cleanGo] at this
      rw [this]
      exact ⟨rfl, HB3.out⟩
end Go.Proofs.YteockpllnhjooaaGreatDoor
