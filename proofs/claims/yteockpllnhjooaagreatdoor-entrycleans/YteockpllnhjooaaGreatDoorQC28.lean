/-
  FnRefB.
-/
import Derived.Test.YteockpllnhjooaaGreatDoorQC25
import Derived.Test.YteockpllnhjooaaGreatDoorQC27
import Derived.Test.YteockpllnhjooaaGreatDoorQC17
namespace Go.Proofs.YteockpllnhjooaaGreatDoor
open Go.RowKit NumMath
open AddrMath (pre post is No Ends plain extra hexV hexAt meant escape way signs)
set_option maxRecDepth 100000
set_option linter.unusedVariables false
set_option linter.unusedSimpArgs false

/-- What the document's way answers. -/
def rwayV (q : Bool) (l : List Nat) : Value := match way q l with | some f => .tuple #[.string (strN f), .bool true] | none => .tuple #[.string (strN []), .bool false]
theorem rwayV_some {q : Bool} {l f : List Nat} (h : way q l = some f) : rwayV q l = .tuple #[.string (strN f), .bool true] := by unfold rwayV; rw [h]
theorem rwayV_none {q : Bool} {l : List Nat} (h : way q l = none) : rwayV q l = .tuple #[.string (strN []), .bool false] := by unfold rwayV; rw [h]
theorem qway_pct {q : Bool} {l : List Nat} {k : Nat} (h : l[k]? = some 37) : way q (l.drop k) = match hexAt (l.drop (k + 1)) with | some v => (way q (l.drop (k + 3))).map (meant v ++ ·) | none => none := by
  rw [drop_cons h, AddrMath.way_pct, List.drop_drop]
  rfl
theorem qway_low {q : Bool} {l : List Nat} {k c : Nat} (h : l[k]? = some c) (h1 : c ≠ 37) (h2 : c < 128) : way q (l.drop k) = if plain c || extra q c then (way q (l.drop (k + 1))).map ([c] ++ ·) else none := by
  rw [drop_cons h, AddrMath.way_low _ h1 h2]; rfl
theorem qway_high {q : Bool} {l : List Nat} {k c r n : Nat} (h : l[k]? = some c) (h2 : 128 ≤ c) (hd : TxtMath.dec (l.drop k) = (r, n)) : way q (l.drop k) = if n = 1 then none else (way q (l.drop (k + n))).map (((l.drop k).take n).flatMap escape ++ ·) := by
  have e := drop_cons h
  have hh := AddrMath.way_high (q := q) (l.drop (k + 1)) h2
  rw [← e, hd] at hh
  rw [hh]
  by_cases h1 : n = 1
  · rw [if_pos h1, if_pos h1]
  · rw [if_neg h1, if_neg h1, List.drop_drop]
theorem signs_up : ∀ c : Fin 256, decide ((pre (is c.val) signs).length < 14) = signs.contains c.val := by decide +kernel
theorem hexI_some {c v : Nat} (h : hexV c = some v) : hexI c = (v : Int) := by unfold hexI; rw [h]
theorem hexI_none {c : Nat} (h : hexV c = none) : hexI c = -1 := by unfold hexI; rw [h]
theorem one_string (c : Nat) (w : World) : (convert 48 9 (.slice (some ⟨w.heap.size, 0, none⟩) 1 1)).run Tryz.prog (w.alloc (.cells #[.int .u8 (c : Int)] 5)) = .ok (.string (strN [c])) (w.alloc (.cells #[.int .u8 (c : Int)] 5)) := by
  have := row_string (cap := 1) (lit_row w .u8 [(c : Int)] 5 w.heap.size rfl)
  have e : strOfNums [(c : Int)] = strN [c] := strOf_ints8 [c]
  rw [e] at this
  exact this

set_option maxRecDepth 100000 in
set_option maxHeartbeats 8000000 in
theorem refWay_any (l : List Nat) (q : Bool) (w : World) (hb : ∀ c ∈ l, c < 256) (hm : l.length ≤ 10000) :
    Calls Tryz.prog 60 #[.string (strN l), .bool q] w fun e w' => e = .returned (rwayV q l) ∧ Below w.heap.size w w' := by
  have hsz := strN_size l
  have HBY : Hid _ := hb
  go_enter Tryz.func60, Tryz.ntmps60
  go_wp2
  go_loopw [6, 7] (fun out at_ wr => ∃ (pos : Nat) (acc : List Nat), out = .string (strN acc) ∧ at_ = .int .i64 (pos : Int) ∧ pos ≤ l.length ∧ acc.length ≤ 3 * pos ∧ way q l = (way q (l.drop pos)).map (acc ++ ·) ∧ Below w.heap.size w wr) (fun _ at_ _ => l.length - (intOf at_).toNat)
  case atStart => exact ⟨0, [], rfl, rfl, by omega, by simp, by simp, Below.refl _ _⟩
  case round =>
    obtain ⟨pos, acc, rfl, rfl, hpl, hal, hway, hbw⟩ := hrel
    have HB : Hid _ := hbw
    have HW : Hid _ := hway
    clear hbw hway
    by_cases hp : pos < l.length
    · obtain ⟨c, hc⟩ : ∃ c, l[pos]? = some c := ⟨l[pos], List.getElem?_eq_getElem hp⟩
      have hc256 := hb c (List.mem_of_getElem? hc)
      have hix : ∀ w, (Instr.index 9 (.string (strN l)) (.int .i64 (pos : Int))).run Tryz.prog w = .ok (.int .u8 (c : Int)) w := by
        intro w
        have := index_strN l hb pos hp .i64 w
        rw [hc] at this; exact this
      have HNx : Hid (∀ w, _) := fun w => next_ref l pos w hb hp (by omega)
      rcases hdec : TxtMath.dec (l.drop pos) with ⟨r, n⟩
      rw [hdec] at HNx
      simp only at HNx
      by_cases hc128 : c < 128
      · have hd2 := AddrMath.dec_ascii hc hc128
        rw [hd2] at hdec
        obtain ⟨hrc, hn1⟩ := Prod.mk.inj hdec
        subst hrc
        subst hn1
        have hr1 : ((c : Int) == 65533) = false := by simp; omega
        have HNx2 : Hid (∀ w, Calls Tryz.prog 62 #[.string (strN l), .int .i64 (pos : Int)] w fun e w' => e = .returned (.tuple #[.int .i64 (c : Int), .int .i64 1]) ∧ w' = w) := HNx.out
        clear HNx hd2 hdec
        by_cases hpct : c = 37
        · have hq37 : ((c : Int) == 37) = true := by simp; omega
          have hwp := qway_pct (q := q) (l := l) (k := pos) (by rw [hc, hpct])
          by_cases h2 : pos + 2 < l.length
          · obtain ⟨a, ha⟩ : ∃ a, l[pos + 1]? = some a := ⟨l[pos + 1]'(by omega), List.getElem?_eq_getElem _⟩
            obtain ⟨b, hbb⟩ : ∃ b, l[pos + 2]? = some b := ⟨l[pos + 2]'(by omega), List.getElem?_eq_getElem _⟩
            have ha256 := hb a (List.mem_of_getElem? ha)
            have hb256 := hb b (List.mem_of_getElem? hbb)
            have hixa : ∀ w, (Instr.index 9 (.string (strN l)) (.int .i64 ((pos : Int) + 1))).run Tryz.prog w = .ok (.int .u8 (a : Int)) w := by
              intro w
              have := index_strN l hb (pos + 1) (by omega) .i64 w
              rw [ha, show ((pos + 1 : Nat) : Int) = (pos : Int) + 1 by omega] at this; exact this
            have hixb : ∀ w, (Instr.index 9 (.string (strN l)) (.int .i64 ((pos : Int) + 2))).run Tryz.prog w = .ok (.int .u8 (b : Int)) w := by
              intro w
              have := index_strN l hb (pos + 2) (by omega) .i64 w
              rw [hbb, show ((pos + 2 : Nat) : Int) = (pos : Int) + 2 by omega] at this; exact this
            have hl3 : l.drop (pos + 1) = a :: b :: l.drop (pos + 3) := by rw [drop_cons ha, drop_cons hbb]
            have hxa : hexAt (l.drop (pos + 1)) = match hexV a, hexV b with | some h, some l => some (16 * h + l) | _, _ => none := by rw [hl3]; rfl
            have HXa : Hid (∀ w, _) := fun w => refHex_any a w ha256
            have HXb : Hid (∀ w, _) := fun w => refHex_any b w hb256
            cases hva : hexV a with
            | none =>
              rw [hva] at hxa
              rw [hxa] at hwp
              rw [hexI_none hva] at HXa
              have HN : Hid (way q l = none) := by show _ = _; rw [HW.out, hwp]; rfl
              clear hwp hc hpct ha hbb hl3 hxa hva
              go_wp2_with (first | (go_at_call 62; refine Calls.mono (HNx2.out _) ?_; rintro e w2 ⟨rfl, h2w⟩; subst w2) | (go_at_call 88; refine Calls.mono (HXa.out _) ?_; rintro e w2 ⟨rfl, h2w⟩; subst w2))
              go_ret2
              rw [rwayV_none HN.out]
              exact ⟨rfl, HB.out⟩
            | some x =>
              rw [hva] at hxa
              rw [hexI_some hva] at HXa
              have hx16 := AddrMath.hexV_lt hva
              cases hvb : hexV b with
              | none =>
                rw [hvb] at hxa
                rw [hxa] at hwp
                rw [hexI_none hvb] at HXb
                have HN : Hid (way q l = none) := by show _ = _; rw [HW.out, hwp]; rfl
                clear hwp hc hpct ha hbb hl3 hxa hva hvb
                go_wp2_with fail
                refine Calls.mono (HNx2.out _) ?_
                rintro e w2 ⟨rfl, h2w⟩
                subst w2
                go_wp2_with fail
                refine Calls.mono (HXa.out _) ?_
                rintro e w2 ⟨rfl, h2w⟩
                subst w2
                go_wp2_with fail
                refine Calls.mono (HXb.out _) ?_
                rintro e w2 ⟨rfl, h2w⟩
                subst w2
                go_wp2
                go_ret2
                rw [rwayV_none HN.out]
                exact ⟨rfl, HB.out⟩
              | some y =>
                rw [hvb] at hxa
                rw [hexI_some hvb] at HXb
                have hy16 := AddrMath.hexV_lt hvb
                rw [hxa] at hwp
                obtain ⟨v, hv⟩ : ∃ v, v = 16 * x + y := ⟨_, rfl⟩
                have HN : Hid (way q l = (way q (l.drop (pos + 3))).map ((acc ++ meant v) ++ ·)) := by show _ = _; rw [HW.out, hwp, hv]; exact map_app _ _ _
                have hvI : (16 : Int) * (x : Int) + (y : Int) = (v : Int) := by omega
                have hw16 : IntKind.i64.wrap (16 * (x : Int)) = 16 * (x : Int) := by rw [IntKind.wrap_i64]; omega
                have hwv : IntKind.i64.wrap (v : Int) = (v : Int) := by rw [IntKind.wrap_i64]; omega
                have hwu : IntKind.u8.wrap (v : Int) = (v : Int) := by simp [IntKind.wrap, IntKind.bits, IntKind.signed]; omega
                have hwp1 : IntKind.i64.wrap ((pos : Int) + 1) = (pos : Int) + 1 := by rw [IntKind.wrap_i64]; omega
                have hwp2 : IntKind.i64.wrap ((pos : Int) + 2) = (pos : Int) + 2 := by rw [IntKind.wrap_i64]; omega
                have hv256 : v < 256 := by omega
                have HV0 : Hid _ := hv
                clear hwp hc hpct ha hbb hl3 hxa hva hvb hv
                have HPl : Hid (∀ w, _) := fun w => refPlain_any v w hv256
                have HEs : Hid (∀ w, _) := fun w => refEscape_any v w hv256
                have HMe : Hid (meant v = if plain v then [v] else escape v) := rfl
                go_wp2_with fail
                refine Calls.mono (HNx2.out _) ?_
                rintro e w2 ⟨rfl, h2w⟩
                subst w2
                go_wp2_with fail
                refine Calls.mono (HXa.out _) ?_
                rintro e w2 ⟨rfl, h2w⟩
                subst w2
                go_wp2_with fail
                refine Calls.mono (HXb.out _) ?_
                rintro e w2 ⟨rfl, h2w⟩
                subst w2
                go_wp2_with fail
                go_quiet (first | with_reducible exact Calls.quiet_of_same (HXa.out _) | with_reducible exact Calls.quiet_of_same (HXb.out _))
                have HB6 : Hid (Below w.heap.size w (wr.drewN nq)) := Below.drewN HB.out _
                have hs6 := HB6.out.size
                generalize wr.drewN nq = w6 at *
                cases hpv : plain v with
                | true =>
                  rw [hpv] at HPl HMe
                  have HMe1 : Hid (meant v = [v]) := HMe.out
                  have hcs := fun w => one_string v w
                  have hcat := sum_strN acc [v] (by simp; omega)
                  go_wp2_with (go_at_call 89; refine Calls.mono (HPl.out _) ?_; rintro e w2 ⟨rfl, h2w⟩; subst w2)
                  exact ⟨⟨pos + 3, acc ++ [v], rfl, by simp, by omega, by simp; omega, by have := HN.out; rw [HMe1.out] at this; exact this, HB6.out.alloc hs6 _⟩, by simp [intOf]; omega⟩
                | false =>
                  rw [hpv] at HPl HMe
                  have HMe1 : Hid (meant v = escape v) := HMe.out
                  have hel : (escape v).length = 3 := rfl
                  have hcat := sum_strN acc (escape v) (by rw [hel]; omega)
                  rw [HMe1.out] at HN
                  have HEL : Hid _ := hel
                  clear hel HMe HMe1
                  generalize escape v = Ev at *
                  go_wp2_with (first | (go_at_call 89; refine Calls.mono (HPl.out _) ?_; rintro e w2 ⟨rfl, h2w⟩; subst w2) | (go_at_call 87; refine Calls.mono (HEs.out _) ?_; rintro e w7 ⟨rfl, hb7⟩; have HB7 : Hid _ := HB6.out.trans (hb7.mono hs6); clear hb7))
                  exact ⟨⟨pos + 3, acc ++ Ev, rfl, by simp, by omega, by rw [List.length_append, HEL.out]; omega, HN.out, HB7.out⟩, by simp [intOf]; omega⟩
          · have hxa := hexAt_none (l.drop (pos + 1)) (by simp; omega)
            rw [hxa] at hwp
            have HN : Hid (way q l = none) := by show _ = _; rw [HW.out, hwp]; rfl
            clear hwp hc hpct hxa
            go_wp2_with (first | (go_at_call 62; refine Calls.mono (HNx2.out _) ?_; rintro e w2 ⟨rfl, h2w⟩; subst w2))
            go_ret2
            rw [rwayV_none HN.out]
            exact ⟨rfl, HB.out⟩
        · have hne : ((c : Int) == 37) = false := by simp; omega
          have hwl := qway_low (q := q) hc hpct hc128
          have HPl : Hid (∀ w, _) := fun w => refPlain_any c w hc256
          have hcs := fun w => one_string c w
          have hcat := sum_strN acc [c] (by simp; omega)
          cases hpl2 : plain c with
          | true =>
            rw [hpl2] at HPl hwl
            have HN : Hid (way q l = (way q (l.drop (pos + 1))).map ((acc ++ [c]) ++ ·)) := by show _ = _; rw [HW.out, hwl]; exact map_app _ _ _
            clear hwl hc hpct
            go_wp2_with (first | (go_at_call 62; refine Calls.mono (HNx2.out _) ?_; rintro e w2 ⟨rfl, h2w⟩; subst w2) | (go_at_call 89; refine Calls.mono (HPl.out _) ?_; rintro e w2 ⟨rfl, h2w⟩; subst w2))
            exact ⟨⟨pos + 1, acc ++ [c], rfl, by simp, by omega, by simp; omega, HN.out, HB.out.alloc HB.out.size _⟩, by simp [intOf]; omega⟩
          | false =>
            rw [hpl2] at HPl hwl
            have HUp : Hid (∀ w, Calls Tryz.prog 56 #[.string ⟨#[33, 36, 38, 39, 40, 41, 42, 43, 44, 59, 61, 58, 64, 47]⟩, .string (strN [c])] w fun e w' => e = .returned (.int .i64 (((pre (is c) signs).length : Nat) : Int)) ∧ Below w.heap.size w w') := by
              intro w
              have := upTo_any signs [c] w (by decide) (by simpa using hc256) (by decide) (by simp)
              rw [anyOf_one] at this
              exact this
            have hup := signs_up ⟨c, hc256⟩
            simp only at hup
            have hxe : extra q c = (signs.contains c || (q && c == 63)) := rfl
            rw [hxe, ← hup] at hwl
            generalize (pre (is c) signs).length = U at *
            clear hup hxe
            by_cases hU : U < 14
            · rw [decide_eq_true hU] at hwl
              have HN : Hid (way q l = (way q (l.drop (pos + 1))).map ((acc ++ [c]) ++ ·)) := by show _ = _; rw [HW.out, hwl]; exact map_app _ _ _
              clear hwl hc hpct
              go_wp2_with (first | (go_at_call 62; refine Calls.mono (HNx2.out _) ?_; rintro e w2 ⟨rfl, h2w⟩; subst w2) | (go_at_call 89; refine Calls.mono (HPl.out _) ?_; rintro e w2 ⟨rfl, h2w⟩; subst w2) | (go_at_call 56; refine Calls.mono (HUp.out _) ?_; rintro e w5 ⟨rfl, hb5⟩; have HB5 : Hid _ := (HB.out.alloc HB.out.size _).trans (hb5.mono (by simp; have := HB.out.size; omega)); clear hb5))
              exact ⟨⟨pos + 1, acc ++ [c], rfl, by simp, by omega, by simp; omega, HN.out, HB5.out.alloc HB5.out.size _⟩, by simp [intOf]; omega⟩
            · rw [decide_eq_false hU] at hwl
              cases q with
              | false =>
                have HN : Hid (way false l = none) := by show _ = _; rw [HW.out, hwl]; rfl
                clear hwl hc hpct
                go_wp2_with (first | (go_at_call 62; refine Calls.mono (HNx2.out _) ?_; rintro e w2 ⟨rfl, h2w⟩; subst w2) | (go_at_call 89; refine Calls.mono (HPl.out _) ?_; rintro e w2 ⟨rfl, h2w⟩; subst w2) | (go_at_call 56; refine Calls.mono (HUp.out _) ?_; rintro e w5 ⟨rfl, hb5⟩; have HB5 : Hid _ := (HB.out.alloc HB.out.size _).trans (hb5.mono (by simp; have := HB.out.size; omega)); clear hb5))
                go_ret2
                rw [rwayV_none HN.out]
                exact ⟨rfl, HB5.out⟩
              | true =>
                by_cases h63 : c = 63
                · have HN : Hid (way true l = (way true (l.drop (pos + 1))).map ((acc ++ [c]) ++ ·)) := by show _ = _; rw [HW.out, hwl, h63]; exact map_app _ _ _
                  have h63b : ((c : Int) == 63) = true := by simp; omega
                  clear hwl hc hpct h63
                  go_wp2_with (first | (go_at_call 62; refine Calls.mono (HNx2.out _) ?_; rintro e w2 ⟨rfl, h2w⟩; subst w2) | (go_at_call 89; refine Calls.mono (HPl.out _) ?_; rintro e w2 ⟨rfl, h2w⟩; subst w2) | (go_at_call 56; refine Calls.mono (HUp.out _) ?_; rintro e w5 ⟨rfl, hb5⟩; have HB5 : Hid _ := (HB.out.alloc HB.out.size _).trans (hb5.mono (by simp; have := HB.out.size; omega)); clear hb5))
                  exact ⟨⟨pos + 1, acc ++ [c], rfl, by simp, by omega, by simp; omega, HN.out, HB5.out.alloc HB5.out.size _⟩, by simp [intOf]; omega⟩
                · have hn63 : ((c : Int) == 63) = false := by simp; omega
                  have HN : Hid (way true l = none) := by show _ = _; rw [HW.out, hwl]; simp [h63]
                  clear hwl hc hpct h63
                  go_wp2_with (first | (go_at_call 62; refine Calls.mono (HNx2.out _) ?_; rintro e w2 ⟨rfl, h2w⟩; subst w2) | (go_at_call 89; refine Calls.mono (HPl.out _) ?_; rintro e w2 ⟨rfl, h2w⟩; subst w2) | (go_at_call 56; refine Calls.mono (HUp.out _) ?_; rintro e w5 ⟨rfl, hb5⟩; have HB5 : Hid _ := (HB.out.alloc HB.out.size _).trans (hb5.mono (by simp; have := HB.out.size; omega)); clear hb5))
                  go_ret2
                  rw [rwayV_none HN.out]
                  exact ⟨rfl, HB5.out⟩
      · have hr128 := AddrMath.dec_big hc (by omega)
        rw [hdec] at hr128
        simp only at hr128
        have hwh := qway_high (q := q) hc (by omega) hdec
        have hdl : n ≤ (l.drop pos).length := by
          have := TxtMath.dec_le (l.drop pos) (by intro e; have := congrArg List.length e; simp at this; omega)
          rw [hdec] at this; exact this
        rw [List.length_drop] at hdl
        have hd1 := (TxtMath.dec_pos (l.drop pos))
        rw [hdec] at hd1
        simp only at hd1
        have hrv := TxtMath.valid_le (TxtMath.dec_valid (l.drop pos))
        rw [hdec] at hrv
        simp only at hrv
        by_cases hn1 : n = 1
        · rw [if_pos hn1] at hwh
          have hr65 := TxtMath.dec_one (l.drop pos) (by rw [hdec]; exact hn1) (by rw [AddrMath.byteAt_drop hc]; omega)
          rw [hdec] at hr65
          simp only at hr65
          have hq1 : ((r : Int) == 65533) = true := by simp; omega
          have hq2 : ((n : Int) == 1) = true := by simp; omega
          have HN : Hid (way q l = none) := by show _ = _; rw [HW.out, hwh]; rfl
          clear hwh hc hdec hn1 hr65
          go_wp2_with (go_at_call 62; refine Calls.mono (HNx.out _) ?_; rintro e w2 ⟨rfl, h2w⟩; subst w2)
          go_ret2
          rw [rwayV_none HN.out]
          exact ⟨rfl, HB.out⟩
        · rw [if_neg hn1] at hwh
          have hq2 : ((n : Int) == 1) = false := by simp; omega
          obtain ⟨T, hT⟩ : ∃ T, T = (l.drop pos).take n := ⟨_, rfl⟩
          have HTl : Hid (T.length = n) := by show _ = _; rw [hT, List.length_take, List.length_drop]; omega
          have HTg : Hid (∀ i c : Nat, T[i]? = some c → l[pos + i]? = some c) := by
            intro i c h
            rw [hT, List.getElem?_take] at h
            split at h
            · rw [List.getElem?_drop] at h; exact h
            · cases h
          rw [← hT] at hwh
          have HN : Hid (way q l = (way q (l.drop (pos + n))).map ((acc ++ T.flatMap escape) ++ ·)) := by show _ = _; rw [HW.out, hwh]; exact map_app _ _ _
          clear hwh hc hdec hn1 hT
          have hqr : ((r : Int) == 65533) = decide (r = 65533) := by rw [Bool.eq_iff_iff]; simp; omega
          cases hr65 : decide (r = 65533) with
          | true =>
            rw [hr65] at hqr
            clear hr65
            go_wp2_with (go_at_call 62; refine Calls.mono (HNx.out _) ?_; rintro e w2 ⟨rfl, h2w⟩; subst w2)
            generalize Value.bool (decide ((128 : Int) ≤ (r : Int))) = b33
            go_loopw [6, 11] (fun out i wr => ∃ j : Nat, j ≤ n ∧ i = .int .i64 (j : Int) ∧ out = .string (strN (acc ++ (T.take j).flatMap escape)) ∧ Below w.heap.size w wr) (fun _ i _ => n - (intOf i).toNat)
            case atStart => exact ⟨0, by omega, rfl, by simp, HB.out⟩
            case round =>
              obtain ⟨j, hj, rfl, rfl, hbw⟩ := hrel
              have HB8 : Hid _ := hbw
              clear hbw
              by_cases hjn : j < n
              · obtain ⟨d, hd⟩ : ∃ d, T[j]? = some d := ⟨T[j]'(by rw [HTl.out]; exact hjn), List.getElem?_eq_getElem _⟩
                have hld := HTg.out j d hd
                have hd256 := HBY.out d (List.mem_of_getElem? hld)
                have hixd : ∀ w, (Instr.index 9 (.string (strN l)) (.int .i64 ((pos : Int) + (j : Int)))).run Tryz.prog w = .ok (.int .u8 (d : Int)) w := by
                  intro w
                  have := index_strN l HBY.out (pos + j) (by omega) .i64 w
                  rw [hld, show ((pos + j : Nat) : Int) = (pos : Int) + (j : Int) by omega] at this; exact this
                have HF : Hid _ := flatMap_take_succ T j d hd
                have HEs : Hid (∀ w, _) := fun w => refEscape_any d w hd256
                have hln : (acc ++ (T.take j).flatMap escape).length ≤ 3 * pos + 12 := by
                  rw [List.length_append, escs_len, List.length_take, HTl.out]; omega
                have hcat := sum_strN (acc ++ (T.take j).flatMap escape) (escape d) (by simp [escape] at *; omega)
                have HA2 : Hid (acc ++ (T.take (j + 1)).flatMap escape = (acc ++ (T.take j).flatMap escape) ++ escape d) := by show _ = _; rw [HF.out, List.append_assoc]
                clear hd hld
                generalize escape d = Ed at *
                generalize acc ++ (T.take j).flatMap escape = A1 at *
                go_wp2_with (go_at_call 87; refine Calls.mono (HEs.out _) ?_; rintro e w9 ⟨rfl, hb9⟩; have HB9 : Hid _ := HB8.out.trans (hb9.mono HB8.out.size); clear hb9)
                go_roundw
                case rel => exact ⟨j + 1, by omega, by simp, by rw [HA2.out], HB9.out⟩
                case measure => simp [intOf]; omega
              · have e : j = n := by omega
                subst e
                have HTE : Hid (T.take j = T) := List.take_of_length_le (by rw [HTl.out]; omega)
                rw [HTE.out]
                have hln : (acc ++ T.flatMap escape).length ≤ 3 * (pos + j) := by
                  rw [List.length_append, escs_len, HTl.out]; omega
                generalize acc ++ T.flatMap escape = A1 at *
                go_wp2
                go_roundw
                case rel => exact ⟨pos + j, A1, rfl, by simp, by omega, hln, HN.out, HB8.out⟩
                case measure => simp [intOf]; omega
          | false =>
            rw [hr65] at hqr
            clear hr65
            go_wp2_with (go_at_call 62; refine Calls.mono (HNx.out _) ?_; rintro e w2 ⟨rfl, h2w⟩; subst w2)
            generalize Value.bool (decide ((128 : Int) ≤ (r : Int))) = b33
            go_loopw [6, 11] (fun out i wr => ∃ j : Nat, j ≤ n ∧ i = .int .i64 (j : Int) ∧ out = .string (strN (acc ++ (T.take j).flatMap escape)) ∧ Below w.heap.size w wr) (fun _ i _ => n - (intOf i).toNat)
            case atStart => exact ⟨0, by omega, rfl, by simp, HB.out⟩
            case round =>
              obtain ⟨j, hj, rfl, rfl, hbw⟩ := hrel
              have HB8 : Hid _ := hbw
              clear hbw
              by_cases hjn : j < n
              · obtain ⟨d, hd⟩ : ∃ d, T[j]? = some d := ⟨T[j]'(by rw [HTl.out]; exact hjn), List.getElem?_eq_getElem _⟩
                have hld := HTg.out j d hd
                have hd256 := HBY.out d (List.mem_of_getElem? hld)
                have hixd : ∀ w, (Instr.index 9 (.string (strN l)) (.int .i64 ((pos : Int) + (j : Int)))).run Tryz.prog w = .ok (.int .u8 (d : Int)) w := by
                  intro w
                  have := index_strN l HBY.out (pos + j) (by omega) .i64 w
                  rw [hld, show ((pos + j : Nat) : Int) = (pos : Int) + (j : Int) by omega] at this; exact this
                have HF : Hid _ := flatMap_take_succ T j d hd
                have HEs : Hid (∀ w, _) := fun w => refEscape_any d w hd256
                have hln : (acc ++ (T.take j).flatMap escape).length ≤ 3 * pos + 12 := by
                  rw [List.length_append, escs_len, List.length_take, HTl.out]; omega
                have hcat := sum_strN (acc ++ (T.take j).flatMap escape) (escape d) (by simp [escape] at *; omega)
                have HA2 : Hid (acc ++ (T.take (j + 1)).flatMap escape = (acc ++ (T.take j).flatMap escape) ++ escape d) := by show _ = _; rw [HF.out, List.append_assoc]
                clear hd hld
                generalize escape d = Ed at *
                generalize acc ++ (T.take j).flatMap escape = A1 at *
                go_wp2_with (go_at_call 87; refine Calls.mono (HEs.out _) ?_; rintro e w9 ⟨rfl, hb9⟩; have HB9 : Hid _ := HB8.out.trans (hb9.mono HB8.out.size); clear hb9)
                go_roundw
                case rel => exact ⟨j + 1, by omega, by simp, by rw [HA2.out], HB9.out⟩
                case measure => simp [intOf]; omega
              · have e : j = n := by omega
                subst e
                have HTE : Hid (T.take j = T) := List.take_of_length_le (by rw [HTl.out]; omega)
                rw [HTE.out]
                have hln : (acc ++ T.flatMap escape).length ≤ 3 * (pos + j) := by
                  rw [List.length_append, escs_len, HTl.out]; omega
                generalize acc ++ T.flatMap escape = A1 at *
                go_wp2
                go_roundw
                case rel => exact ⟨pos + j, A1, rfl, by simp, by omega, hln, HN.out, HB8.out⟩
                case measure => simp [intOf]; omega
    · have hpp : pos = l.length := by omega
      have HF : Hid (way q l = some acc) := by
        show _ = _
        rw [HW.out, List.drop_eq_nil_of_le (by omega)]
        show some (acc ++ []) = _
        rw [List.append_nil]
      clear hpp
      go_wp2
      go_ret2
      rw [rwayV_some HF.out]
      exact ⟨rfl, HB.out⟩
end Go.Proofs.YteockpllnhjooaaGreatDoor
