/-
  FnClean, FnCut.
-/
import Derived.Test.YteockpllnhjooaaGreatDoorQL10
import Derived.Test.YteockpllnhjooaaGreatDoorQL21
import Derived.Test.YteockpllnhjooaaGreatDoorQL06
namespace Go.Proofs.YteockpllnhjooaaGreatDoor
open Go.RowKit NumMath
set_option maxRecDepth 100000
set_option linter.unusedVariables false
set_option linter.unusedSimpArgs false

/-- A builder in block g that holds these bytes. -/
def Bld (w : World) (g : Nat) (l : List Nat) : Prop := Lib.IsBuilderF 93 5 g g (cellsN l) w
/-- What a writer hands back. -/
theorem write_bld {B : Nat} {acc : List Nat} {r : Nat} {w : World} (h : Bld w B acc) (hv : TxtMath.valid r = true) (hl : acc.length + 4 ≤ 140737488355328) (hB : B ≤ w.heap.size) :
    Calls Tryz.prog 54 #[.pointer (some ⟨B, 0, none⟩), .int .i32 (r : Int)] w fun e w' => ∃ k : Int, e = .returned (.tuple #[.int .i64 k, .nilIface]) ∧ Bld w' B (acc ++ TxtMath.enc r) ∧ Below B w w' ∧ Lib.OthersKept 5 (some B) w w' := by
  have hr := TxtMath.valid_le hv
  refine (writeRune_any B B (cellsN acc) (r : Int) (by omega) (by omega) w h (by rw [cellsN_len]; exact hl) hB).mono ?_
  rintro e w' ⟨rfl, h1, h2, h3⟩
  refine ⟨_, rfl, Or.inr ?_, h2, h3⟩
  rw [cellsN_append, ← cellsN_enc r hv]
  exact h1
theorem len_bld {B : Nat} {acc : List Nat} {w : World} (h : Bld w B acc) :
    Calls Tryz.prog 53 #[.pointer (some ⟨B, 0, none⟩)] w fun e w' => e = .returned (.int .i64 ((acc.length : Nat) : Int)) ∧ w' = w := by
  have := Builder_Len_f B B (cellsN acc) w h
  rwa [cellsN_len] at this
theorem str_bld {B : Nat} {acc : List Nat} {w : World} (h : Bld w B acc) (hB : B ≤ w.heap.size) :
    Calls Tryz.prog 55 #[.pointer (some ⟨B, 0, none⟩)] w fun e w' => e = .returned (.string (strN acc)) ∧ Below B w w' := by
  refine (Builder_String_any_k B B (acc.map fun n => UInt8.ofNat n) w h hB).mono ?_
  rintro e w' ⟨rfl, _, h2, _⟩
  exact ⟨rfl, h2⟩
theorem Bld.iterAt {w : World} {B : Nat} {acc : List Nat} (h : Bld w B acc) {g : Nat} {l : List Nat} {pos : Nat} (hk : Iter w g l pos) (p : Nat) : Bld (w.iterAt g (strN l) p) B acc := Lib.IsBuilderF.iterAt h hk p
theorem Iter.others {w w' : World} {B g : Nat} {l : List Nat} {pos : Nat} (h : Iter w g l pos) (k : Lib.OthersKept 5 (some B) w w') (hg : g ≠ B) : Iter w' g l pos := Lib.OthersKept.iter k h hg

set_option maxRecDepth 100000 in
set_option maxHeartbeats 4000000 in
theorem clean_any (l : List Nat) (w : World) (hb : ∀ c ∈ l, c < 256) (hm : 4 * l.length + 8 ≤ 140737488355328) :
    Calls Tryz.prog 28 #[.string (strN l)] w fun e w' => e = .returned (.string (strN (TxtMath.cleanB l))) ∧ Below w.heap.size w w' := by
  have HI0 : Hid (Iter ((w.alloc (.cells #[.pointer none, .slice none 0 0] 93)).alloc (.stringIter (strN l) 0)) (w.heap.size + 1) l 0) := Iter.new _ l _ (by simp)
  have HB0 : Hid (Below w.heap.size w ((w.alloc (.cells #[.pointer none, .slice none 0 0] 93)).alloc (.stringIter (strN l) 0))) := ((Below.refl _ w).alloc (Nat.le_refl _) _).alloc (by simp) _
  have HD0 : Hid (Bld ((w.alloc (.cells #[.pointer none, .slice none 0 0] 93)).alloc (.stringIter (strN l) 0)) w.heap.size []) := (Lib.IsBuilderF.of (Lib.fresh_isBuilder 93 5 w)).alloc _
  go_enter Tryz.func28, Tryz.ntmps28
  go_wp2
  go_loopw [4] (fun v wr => ∃ (gap : Bool) (pos : Nat) (acc : List Nat), v = .bool gap ∧ Bld wr w.heap.size (TxtMath.encs acc) ∧ Iter wr (w.heap.size + 1) l pos ∧ Below w.heap.size w wr ∧ acc ++ TxtMath.cleanGo gap (!acc.isEmpty) (TxtMath.runes (l.drop pos)) = TxtMath.clean (TxtMath.runes l)) (fun _ wr => l.length - wr.iterPos (w.heap.size + 1))
  case atStart => exact ⟨false, 0, [], rfl, HD0.out, HI0.out, HB0.out, by simp [TxtMath.clean]⟩
  case round =>
    clear HI0 HB0 HD0
    obtain ⟨gap, pos, acc, rfl, hD, hit, hbw, hacc⟩ := hrel
    have hal : acc.length ≤ l.length := by
      have h1 := congrArg List.length hacc
      have h2 := TxtMath.clean_len (TxtMath.runes l)
      have h3 := TxtMath.runes_len_le l
      simp at h1; omega
    have hel := TxtMath.encs_len_le acc
    have hlt := hit.lt
    have HIT : Hid _ := hit
    have HBW : Hid _ := hbw
    have HA : Hid _ := hacc
    by_cases hp : pos < l.length
    · obtain ⟨r, n, hnx, hv, hr, hn, hpn, hru, hdec⟩ := next_some hit hb hp
      have HRU : Hid _ := hru
      have HI2 : Hid _ := hit.set (pos + n)
      have HB2 : Hid _ := Lib.below_iterAt hbw (k := w.heap.size + 1) (by omega) (strN l) (pos + n)
      have HD2 : Hid _ := hD.iterAt hit (pos + n)
      have HN : Hid _ := hn
      have HV : Hid _ := hv
      have hsz : w.heap.size + 1 < (wr.iterAt (w.heap.size + 1) (strN l) (pos + n)).heap.size := by rw [Lib.iterAt_size]; exact hlt
      clear hacc hit hbw hru hdec hD hv
      have HM : Hid (l.length - (pos + n) < l.length - wr.iterPos (w.heap.size + 1)) := by
        show _ < _; rw [Iter.pos HIT.out]; have := HN.out; omega
      generalize wr.iterAt (w.heap.size + 1) (strN l) (pos + n) = w1 at *
      clear hn
      cases hw : TxtMath.white r with
      | true =>
        go_wp2_with (go_at_call 51; refine (isWhite_any r _ hr).mono ?_; rintro e w2 ⟨rfl, rfl⟩)
        go_roundw
        case rel =>
          refine ⟨true, pos + n, acc, rfl, HD2.out, HI2.out, HB2.out, ?_⟩
          rw [← HA.out, HRU.out, TxtMath.cleanGo, if_pos hw]
        case measure => rw [Iter.pos HI2.out]; exact HM.out
      | false =>
        have hba := bare_is r hw
        cases hbp : bareP r with
        | true =>
          have HBA : Hid (TxtMath.bare r = true) := by show _ = _; rw [hba, hbp]
          clear hba
          go_wp2_with (first | (go_at_call 51; refine (isWhite_any r _ hr).mono ?_; rintro e w2 ⟨rfl, rfl⟩) | (go_at_call 52; refine (isBare_any r _ hr).mono ?_; rintro e w2 ⟨rfl, rfl⟩))
          go_roundw
          case rel =>
            refine ⟨gap, pos + n, acc, rfl, HD2.out, HI2.out, HB2.out, ?_⟩
            rw [← HA.out, HRU.out, TxtMath.cleanGo, if_neg (by rw [hw]; decide), if_pos HBA.out]
          case measure => rw [Iter.pos HI2.out]; exact HM.out
        | false =>
          have HBA : Hid (TxtMath.bare r = false) := by show _ = _; rw [hba, hbp]
          clear hba
          have HST : Hid (∀ g e, TxtMath.cleanGo g e (r :: TxtMath.runes (l.drop (pos + n))) = (if (g && e) = true then [32] else []) ++ r :: TxtMath.cleanGo false true (TxtMath.runes (l.drop (pos + n)))) := by
            intro g e; rw [TxtMath.cleanGo, if_neg (by rw [hw]; decide), if_neg (by rw [HBA.out]; decide)]
          cases gap with
          | false =>
            go_wp2_with (first | (go_at_call 51; refine (isWhite_any r _ hr).mono ?_; rintro e w2 ⟨rfl, rfl⟩) | (go_at_call 52; refine (isBare_any r _ hr).mono ?_; rintro e w2 ⟨rfl, rfl⟩))
            refine (write_bld HD2.out HV.out (by omega) (by omega)).mono ?_
            rintro e w2 ⟨k, rfl, h1, h2, h3⟩
            have HD3 : Hid _ := h1
            have HI3 : Hid _ := Iter.others HI2.out h3 (by omega)
            have HB3 : Hid _ := HB2.out.trans h2
            clear h1 h2 h3
            go_wp2
            go_roundw
            case rel =>
              refine ⟨false, pos + n, acc ++ [r], rfl, ?_, HI3.out, HB3.out, ?_⟩
              · rw [TxtMath.encs_append, TxtMath.encs_one]; exact HD3.out
              · have e : (acc ++ [r]).isEmpty = false := by cases acc <;> rfl
                rw [← HA.out, HRU.out, HST.out, e]; simp
            case measure => rw [Iter.pos HI3.out]; exact HM.out
          | true =>
            by_cases hne : acc = []
            · subst hne
              go_wp2_with (first | (go_at_call 51; refine (isWhite_any r _ hr).mono ?_; rintro e w2 ⟨rfl, rfl⟩) | (go_at_call 52; refine (isBare_any r _ hr).mono ?_; rintro e w2 ⟨rfl, rfl⟩) | (go_at_call 53; refine (len_bld HD2.out).mono ?_; rintro e w2 ⟨rfl, rfl⟩))
              refine (write_bld HD2.out HV.out (by omega) (by omega)).mono ?_
              rintro e w2 ⟨k, rfl, h1, h2, h3⟩
              have HD3 : Hid _ := h1
              have HI3 : Hid _ := Iter.others HI2.out h3 (by omega)
              have HB3 : Hid _ := HB2.out.trans h2
              clear h1 h2 h3
              go_wp2
              go_roundw
              case rel =>
                refine ⟨false, pos + n, [r], rfl, ?_, HI3.out, HB3.out, ?_⟩
                · rw [show TxtMath.encs [r] = TxtMath.encs [] ++ TxtMath.enc r by simp [TxtMath.encs]]; exact HD3.out
                · rw [← HA.out, HRU.out, HST.out]; simp
              case measure => rw [Iter.pos HI3.out]; exact HM.out
            · have hpos : 0 < (TxtMath.encs acc).length := by
                have := TxtMath.encs_len_ge acc
                have : 0 < acc.length := List.length_pos_iff.2 hne
                omega
              have HNE : Hid _ := hne
              go_wp2_with (first | (go_at_call 51; refine (isWhite_any r _ hr).mono ?_; rintro e w2 ⟨rfl, rfl⟩) | (go_at_call 52; refine (isBare_any r _ hr).mono ?_; rintro e w2 ⟨rfl, rfl⟩) | (go_at_call 53; refine (len_bld HD2.out).mono ?_; rintro e w2 ⟨rfl, rfl⟩))
              refine (write_bld (r := 32) HD2.out (by decide) (by omega) (by omega)).mono ?_
              rintro e w2 ⟨k, rfl, h1, h2, h3⟩
              have HD3 : Hid _ := h1
              have HI3 : Hid _ := Iter.others HI2.out h3 (by omega)
              have HB3 : Hid _ := HB2.out.trans h2
              have hs2 := Iter.lt HI3.out
              clear h1 h2 h3
              go_wp2_with fail
              refine (write_bld HD3.out HV.out (by simp [TxtMath.enc]; omega) (by omega)).mono ?_
              rintro e w3 ⟨k, rfl, h1, h2, h3⟩
              have HD4 : Hid _ := h1
              have HI4 : Hid _ := Iter.others HI3.out h3 (by omega)
              have HB4 : Hid _ := HB3.out.trans h2
              clear h1 h2 h3
              go_wp2
              go_roundw
              case rel =>
                refine ⟨false, pos + n, acc ++ [32, r], rfl, ?_, HI4.out, HB4.out, ?_⟩
                · rw [TxtMath.encs_append, TxtMath.encs_cons, TxtMath.encs_one, ← List.append_assoc]; exact HD4.out
                · have e : acc.isEmpty = false := by simpa using HNE.out
                  have e2 : (acc ++ [32, r]).isEmpty = false := by cases acc <;> rfl
                  rw [← HA.out, HRU.out, HST.out, e, e2]; simp
              case measure => rw [Iter.pos HI4.out]; exact HM.out
    · have hnx := next_none (l := l) hit hp
      have HD : Hid _ := hD
      clear hacc hit hbw hD
      go_wp2_with fail
      refine (str_bld HD.out (by omega)).mono ?_
      rintro e w2 ⟨rfl, h2⟩
      have HB3 : Hid _ := HBW.out.trans h2
      clear h2
      go_wp2
      go_ret
      have := HA.out
      rw [TxtMath.runes_end l pos hp] at this
      simp [TxtMath.cleanGo] at this
      rw [this]
      exact ⟨rfl, HB3.out⟩
end Go.Proofs.YteockpllnhjooaaGreatDoor
namespace Go.Proofs.YteockpllnhjooaaGreatDoor
open Go.RowKit NumMath
set_option maxRecDepth 100000
set_option linter.unusedVariables false
set_option linter.unusedSimpArgs false

theorem cleanB_lt (l : List Nat) : ∀ c ∈ TxtMath.cleanB l, c < 256 := TxtMath.encs_lt _ (TxtMath.clean_ok l)
theorem cleanB_len (l : List Nat) : (TxtMath.cleanB l).length ≤ 4 * l.length := by
  have h1 := TxtMath.encs_len_le (TxtMath.clean (TxtMath.runes l))
  have h2 := TxtMath.clean_len (TxtMath.runes l)
  have h3 := TxtMath.runes_len_le l
  unfold TxtMath.cleanB; omega

/-- The last byte of a rune is a blank just if the rune is. -/
theorem enc_last (r : Nat) : ∃ a b, TxtMath.enc r = a ++ [b] ∧ (b = 32 → r = 32) := by
  unfold TxtMath.enc
  split
  · exact ⟨[], r, rfl, id⟩
  · split
    · exact ⟨[_], _, rfl, fun h => by omega⟩
    · split
      · exact ⟨[_, _], _, rfl, fun h => by omega⟩
      · exact ⟨[_, _, _], _, rfl, fun h => by omega⟩
theorem suffix_last {a : List UInt8} {b : UInt8} : ([32] : List UInt8).isSuffixOf (a ++ [b]) = decide (b = 32) := by
  rw [Bool.eq_iff_iff, List.isSuffixOf_iff_suffix, decide_eq_true_eq]
  constructor
  · rintro ⟨t, ht⟩
    have := List.append_inj_right' ht rfl
    simpa using this.symm
  · rintro rfl; exact ⟨a, rfl⟩
theorem trim_bytes (Y : List Nat) (hv : ∀ r ∈ Y, TxtMath.valid r = true) : (⟨(Lib.trimSuffix (strN (TxtMath.encs Y)).data.toList ([32] : List UInt8)).toArray⟩ : ByteArray) = strN (TxtMath.encs (TxtMath.trimR Y)) := by
  rw [strN_data]
  have main : Lib.trimSuffix ((TxtMath.encs Y).map fun n => UInt8.ofNat n) [32] = (TxtMath.encs (TxtMath.trimR Y)).map fun n => UInt8.ofNat n := by
    rcases List.eq_nil_or_concat Y with rfl | ⟨Y', y, hY⟩
    · rfl
    · rw [List.concat_eq_append] at hY
      subst hY
      rw [TxtMath.encs_append, TxtMath.encs_one]
      by_cases hy : y = 32
      · subst hy
        have e1 : TxtMath.trimR (Y' ++ [32]) = Y' := by unfold TxtMath.trimR; simp
        have e2 : TxtMath.enc 32 = [32] := rfl
        rw [e1, e2, List.map_append]
        unfold Lib.trimSuffix Lib.hasSuffix
        rw [show (List.map (fun n => UInt8.ofNat n) [32]) = ([32] : List UInt8) from rfl, suffix_last]
        simp
      · have e1 : TxtMath.trimR (Y' ++ [y]) = Y' ++ [y] := TxtMath.trim_fix _ (by simp [hy])
        obtain ⟨a, b, hab, hne⟩ := enc_last y
        have hb : b < 256 := TxtMath.enc_lt y (TxtMath.valid_le (hv y (by simp))) b (by rw [hab]; simp)
        have hb32 : UInt8.ofNat b ≠ 32 := by
          intro e
          have := congrArg UInt8.toNat e
          simp at this
          exact hy (hne (by omega))
        rw [e1, TxtMath.encs_append, TxtMath.encs_one, hab, ← List.append_assoc, List.map_append]
        unfold Lib.trimSuffix Lib.hasSuffix
        rw [show (List.map (fun n => UInt8.ofNat n) [b]) = ([UInt8.ofNat b] : List UInt8) from rfl, suffix_last, decide_eq_false hb32]
        simp
  rw [main]; rfl

/-- Where the k-th rune of written runes begins. -/
theorem drop_encs (C : List Nat) (k : Nat) : (TxtMath.encs C).drop (TxtMath.encs (C.take k)).length = TxtMath.encs (C.drop k) := by
  conv => lhs; rw [← List.take_append_drop k C, TxtMath.encs_append]
  rw [List.take_append_drop]
  simp
theorem take_encs (C : List Nat) (k : Nat) : (TxtMath.encs C).take (TxtMath.encs (C.take k)).length = TxtMath.encs (C.take k) := by
  conv => lhs; rw [← List.take_append_drop k C, TxtMath.encs_append]
  rw [List.take_append_drop]
  simp
theorem encs_take_succ (C : List Nat) (k : Nat) (h : k < C.length) : ∃ r, C.drop k = r :: C.drop (k + 1) ∧ r ∈ C ∧ TxtMath.encs (C.take (k + 1)) = TxtMath.encs (C.take k) ++ TxtMath.enc r := by
  refine ⟨C[k], List.drop_eq_getElem_cons h, List.getElem_mem h, ?_⟩
  rw [List.take_succ_eq_append_getElem h, TxtMath.encs_append, TxtMath.encs_one]
/-- The k-th rune, read off written runes. -/
theorem dec_encs (C : List Nat) (hv : ∀ r ∈ C, TxtMath.valid r = true) (k : Nat) (h : k < C.length) : ∃ r, C.drop k = r :: C.drop (k + 1) ∧ r ∈ C ∧ TxtMath.dec ((TxtMath.encs C).drop (TxtMath.encs (C.take k)).length) = (r, (TxtMath.enc r).length) ∧ (TxtMath.encs (C.take (k + 1))).length = (TxtMath.encs (C.take k)).length + (TxtMath.enc r).length := by
  obtain ⟨r, h1, h2, h3⟩ := encs_take_succ C k h
  refine ⟨r, h1, h2, ?_, by rw [h3]; simp⟩
  rw [drop_encs, h1, TxtMath.encs_cons, TxtMath.dec_enc r _ (hv r h2)]
theorem encs_take_lt (C : List Nat) (k : Nat) : (TxtMath.encs (C.take k)).length < (TxtMath.encs C).length ↔ k < C.length := by
  constructor
  · intro h
    rcases Nat.lt_or_ge k C.length with h' | h'
    · exact h'
    · rw [List.take_of_length_le h'] at h; omega
  · intro h
    have e : C = C.take k ++ C.drop k := (List.take_append_drop k C).symm
    have h1 : TxtMath.encs C = TxtMath.encs (C.take k) ++ TxtMath.encs (C.drop k) := by
      conv => lhs; rw [e]
      rw [TxtMath.encs_append]
    have h2 := TxtMath.encs_len_ge (C.drop k)
    rw [h1]; simp at h2 ⊢; omega

set_option maxRecDepth 100000 in
set_option maxHeartbeats 4000000 in
theorem cut_any (l : List Nat) (n : Int) (w : World) (hb : ∀ c ∈ l, c < 256) (hm : 4 * l.length + 8 ≤ 140737488355328) (hn : -9223372036854775808 ≤ n ∧ n ≤ 9223372036854775807) :
    Calls Tryz.prog 26 #[.string (strN l), .int .i64 n] w fun e w' => e = .returned (.string (strN (TxtMath.cutB l n))) ∧ Below w.heap.size w w' := by
  have HC : Hid (∀ w, _) := fun w => clean_any l w hb hm
  have hcb : ∀ c ∈ TxtMath.cleanB l, c < 256 := cleanB_lt l
  have hcl := cleanB_len l
  obtain ⟨C, hC⟩ : ∃ C, C = TxtMath.clean (TxtMath.runes l) := ⟨_, rfl⟩
  have hCv : ∀ r ∈ C, TxtMath.valid r = true := by rw [hC]; exact TxtMath.clean_ok l
  have HQ : Hid (TxtMath.cutB l n = TxtMath.encs (TxtMath.cutR n C)) := by show _ = _; rw [hC]; rfl
  have HL : Hid (∀ k : Int, (C.length : Int) ≤ k → TxtMath.cutR k C = C) := by intro k hk; rw [hC] at hk ⊢; exact TxtMath.cut_all k _ hk
  have eC : TxtMath.cleanB l = TxtMath.encs C := by rw [hC]; rfl
  rw [eC] at hcb hcl HC
  clear hC eC
  obtain ⟨c, hc⟩ : ∃ c, c = TxtMath.encs C := ⟨_, rfl⟩
  have Hc : Hid _ := hc
  rw [← hc] at hcb hcl HC
  clear hc
  go_enter Tryz.func26, Tryz.ntmps26
  go_wp2_with fail
  refine Calls.mono (HC.out _) ?_
  rintro e w1 ⟨rfl, h1⟩
  have HB1 : Hid _ := h1
  have hs1 := h1.size
  have HI0 : Hid (Iter (w1.alloc (.stringIter (strN c) 0)) w1.heap.size c 0) := Iter.new w1 c _ rfl
  have HB0 : Hid (Below w.heap.size w (w1.alloc (.stringIter (strN c) 0))) := h1.alloc hs1 _
  clear h1 HC HB1
  go_wp2
  obtain ⟨g, hg⟩ : ∃ g, g = w1.heap.size := ⟨_, rfl⟩
  rw [← hg] at hs1 HI0 ⊢
  clear hg
  go_loopw [1] (fun v wr => ∃ k pos : Nat, v = .int .i64 (n - (k : Int)) ∧ Iter wr g c pos ∧ Below w.heap.size w wr ∧ pos = (TxtMath.encs (C.take k)).length ∧ k ≤ C.length ∧ (k : Int) ≤ max n 0) (fun _ wr => c.length - wr.iterPos g)
  case atStart => exact ⟨0, 0, by simp, HI0.out, HB0.out, by simp [TxtMath.encs], by omega, by omega⟩
  case round =>
    clear HI0 HB0
    obtain ⟨k, pos, rfl, hit, hbw, hpos, hkC, hkn⟩ := hrel
    have hlt := hit.lt
    have HIT : Hid _ := hit
    have HBW : Hid _ := hbw
    have HP : Hid _ := hpos
    by_cases hp : pos < c.length
    · have hk : k < C.length := by rw [hpos, Hc.out] at hp; exact (encs_take_lt C k).1 hp
      obtain ⟨r, n', hnx, hv, hr, hn', hpn, hru, hdec⟩ := next_some hit hcb hp
      obtain ⟨r2, hd1, hd2, hd3, hd4⟩ := dec_encs C hCv k hk
      have hw : n' = (TxtMath.enc r2).length := by
        rw [hpos, Hc.out, hd3] at hdec
        simpa using (congrArg Prod.snd hdec).symm
      have HP2 : Hid (pos + n' = (TxtMath.encs (C.take (k + 1))).length) := by show _ = _; rw [hd4, ← hpos, ← hw]
      have HI2 : Hid _ := hit.set (pos + n')
      have HB2 : Hid _ := Lib.below_iterAt hbw (k := g) hs1 (strN c) (pos + n')
      have HM : Hid (c.length - (pos + n') < c.length - wr.iterPos g) := by
        show _ < _; rw [Iter.pos HIT.out]; omega
      clear hit hbw hru hdec hpos hd1 hd2 hd3 hd4 hw
      generalize wr.iterAt g (strN c) (pos + n') = w2 at *
      by_cases hle : n - (k : Int) ≤ 0
      · have hsl : ∀ w, (Instr.sliceAt 9 (.string (strN c)) none (some (.int .i64 (pos : Int))) none).run Tryz.prog w = .ok (.string (strN (c.take pos))) w := fun w => run_slice_strN0 c .i64 pos (by omega)
        have hps : (pos : Int) ≤ (strN c).size := by rw [strN_size]; omega
        have HT : Hid (∀ w, _) := fun w => strings_TrimSuffix (strN (c.take pos)) ⟨#[32]⟩ w (by rw [strN_size, List.length_take]; omega)
        go_wp2_with fail
        refine Calls.mono (HT.out _) ?_
        rintro e w3 ⟨rfl, rfl⟩
        go_wp2
        go_ret
        refine ⟨?_, HB2.out⟩
        have hkn' : n.toNat = k := by omega
        have e1 : c.take pos = TxtMath.encs (C.take k) := by rw [HP.out, Hc.out, take_encs]
        rw [HQ.out]
        unfold TxtMath.cutR
        rw [hkn', ← trim_bytes (C.take k) (fun r hr => hCv r (List.mem_of_mem_take hr)), ← e1]
        rfl
      · have hk1 : n - (k : Int) - 1 = n - ((k + 1 : Nat) : Int) := by omega
        have HK1 : Hid _ := hk1
        clear hk1
        go_wp2
        go_roundw
        case rel =>
          refine ⟨k + 1, pos + n', ?_, HI2.out, HB2.out, HP2.out, by omega, by omega⟩
          first
            | rw [HK1.out]
            | (simp only [Value.int.injEq, true_and]; omega)
        case measure => rw [Iter.pos HI2.out]; exact HM.out
    · have hnx := next_none (l := c) hit hp
      have hk : ¬ k < C.length := by intro h; apply hp; rw [hpos, Hc.out]; exact (encs_take_lt C k).2 h
      clear hit hbw hpos
      go_wp2
      go_ret
      refine ⟨?_, HBW.out⟩
      rw [HQ.out]
      by_cases hn0 : (C.length : Int) ≤ n
      · rw [HL.out n hn0, ← Hc.out]; rfl
      · have hCe : C = [] := List.eq_nil_of_length_eq_zero (by omega)
        have h2 := Hc.out
        rw [hCe] at h2 ⊢
        rw [h2]
        unfold TxtMath.cutR
        simp [TxtMath.trimR, TxtMath.encs]
end Go.Proofs.YteockpllnhjooaaGreatDoor
