/-
  FnRefB, FnRefD, FnRefE.
-/
import Derived.Test.YteockpllnhjooaaGreatDoorQ19
import Derived.Test.YteockpllnhjooaaGreatDoorQ25
import Derived.Test.YteockpllnhjooaaGreatDoorQ17
import Derived.Test.YteockpllnhjooaaGreatDoorQ18
namespace Go.Proofs.YteockpllnhjooaaGreatDoor
open Go.RowKit NumMath
open AddrMath (pre post is No Ends plain extra hexV hexAt meant escape way signs)
set_option maxRecDepth 100000
set_option linter.unusedVariables false
set_option linter.unusedSimpArgs false

/-- What the document's way answers. -/
def rwayV (q : Bool) (l : List Nat) : Value := match way q l with | some f => .tuple #[.string (strN f), .bool true] | none => .tuple #[.string (strN []), .bool false]
theorem rwayV_some {q : Bool} {l f : List Nat} (h : way q l = some f) : rwayV q l = .tuple #[.string (strN f), .bool true] := by unfold rwayV; rw [h]
theorem rwayV_none {q : Bool} {l : List Nat} (h : way q l = none) : rwayV q l = .tuple #[.string (strN []), .bool false] := by unfold rwayV; rw [h]
theorem qway_pct {q : Bool} {l : List Nat} {k : Nat} (h : l[k]? = some 37) : way q (l.drop k) = match hexAt (l.drop (k + 1)) with | some v => (way q (l.drop (k + 3))).map (meant v ++ ·) | none => none := by
  rw [drop_cons h, AddrMath.way_pct, List.drop_drop]
  rfl
theorem qway_low {q : Bool} {l : List Nat} {k c : Nat} (h : l[k]? = some c) (h1 : c ≠ 37) (h2 : c < 128) : way q (l.drop k) = if plain c || extra q c then (way q (l.drop (k + 1))).map ([c] ++ ·) else none := by
  rw [drop_cons h, AddrMath.way_low _ h1 h2]; rfl
theorem qway_high {q : Bool} {l : List Nat} {k c r n : Nat} (h : l[k]? = some c) (h2 : 128 ≤ c) (hd : TxtMath.dec (l.drop k) = (r, n)) : way q (l.drop k) = if n = 1 then none else (way q (l.drop (k + n))).map (((l.drop k).take n).flatMap escape ++ ·) := by
  have e := drop_cons h
  have hh := AddrMath.way_high (q := q) (l.drop (k + 1)) h2
  rw [← e, hd] at hh
  rw [hh]
  by_cases h1 : n = 1
  · rw [if_pos h1, if_pos h1]
  · rw [if_neg h1, if_neg h1, List.drop_drop]
theorem signs_up : ∀ c : Fin 256, decide ((pre (is c.val) signs).length < 14) = signs.contains c.val := by decide +kernel
theorem hexI_some {c v : Nat} (h : hexV c = some v) : hexI c = (v : Int) := by unfold hexI; rw [h]
theorem hexI_none {c : Nat} (h : hexV c = none) : hexI c = -1 := by unfold hexI; rw [h]
theorem one_string (c : Nat) (w : World) : (convert 48 9 (.slice (some ⟨w.heap.size, 0, none⟩) 1 1)).run Tryz.prog (w.alloc (.cells #[.int .u8 (c : Int)] 5)) = .ok (.string (strN [c])) (w.alloc (.cells #[.int .u8 (c : Int)] 5)) := by
  have := row_string (cap := 1) (lit_row w .u8 [(c : Int)] 5 w.heap.size rfl)
  have e : strOfNums [(c : Int)] = strN [c] := strOf_ints8 [c]
  rw [e] at this
  exact this

set_option maxRecDepth 100000 in
set_option maxHeartbeats 8000000 in
theorem refWay_any (l : List Nat) (q : Bool) (w : World) (hb : ∀ c ∈ l, c < 256) (hm : l.length ≤ 10000) :
    Calls Tryz.prog 60 #[.string (strN l), .bool q] w fun e w' => e = .returned (rwayV q l) ∧ Below w.heap.size w w' := by
  have hsz := strN_size l
  have HBY : Hid _ := hb
  go_enter Tryz.func60, Tryz.ntmps60
  go_wp2
  go_loopw [6, 7] (fun out at_ wr => ∃ (pos : Nat) (acc : List Nat), out = .string (strN acc) ∧ at_ = .int .i64 (pos : Int) ∧ pos ≤ l.length ∧ acc.length ≤ 3 * pos ∧ way q l = (way q (l.drop pos)).map (acc ++ ·) ∧ Below w.heap.size w wr) (fun _ at_ _ => l.length - (intOf at_).toNat)
  case atStart => exact ⟨0, [], rfl, rfl, by omega, by simp, by simp, Below.refl _ _⟩
  case round =>
    obtain ⟨pos, acc, rfl, rfl, hpl, hal, hway, hbw⟩ := hrel
    have HB : Hid _ := hbw
    have HW : Hid _ := hway
    clear hbw hway
    by_cases hp : pos < l.length
    · obtain ⟨c, hc⟩ : ∃ c, l[pos]? = some c := ⟨l[pos], List.getElem?_eq_getElem hp⟩
      have hc256 := hb c (List.mem_of_getElem? hc)
      have hix : ∀ w, (Instr.index 9 (.string (strN l)) (.int .i64 (pos : Int))).run Tryz.prog w = .ok (.int .u8 (c : Int)) w := by
        intro w
        have := index_strN l hb pos hp .i64 w
        rw [hc] at this; exact this
      have HNx : Hid (∀ w, _) := fun w => next_ref l pos w hb hp (by omega)
      rcases hdec : TxtMath.dec (l.drop pos) with ⟨r, n⟩
      rw [hdec] at HNx
      simp only at HNx
      by_cases hc128 : c < 128
      · have hd2 := AddrMath.dec_ascii hc hc128
        rw [hd2] at hdec
        obtain ⟨hrc, hn1⟩ := Prod.mk.inj hdec
        subst hrc
        subst hn1
        have hr1 : ((c : Int) == 65533) = false := by simp; omega
        have HNx2 : Hid (∀ w, Calls Tryz.prog 62 #[.string (strN l), .int .i64 (pos : Int)] w fun e w' => e = .returned (.tuple #[.int .i64 (c : Int), .int .i64 1]) ∧ w' = w) := HNx.out
        clear HNx hd2 hdec
        by_cases hpct : c = 37
        · have hq37 : ((c : Int) == 37) = true := by simp; omega
          have hwp := qway_pct (q := q) (l := l) (k := pos) (by rw [hc, hpct])
          by_cases h2 : pos + 2 < l.length
          · obtain ⟨a, ha⟩ : ∃ a, l[pos + 1]? = some a := ⟨l[pos + 1]'(by omega), List.getElem?_eq_getElem _⟩
            obtain ⟨b, hbb⟩ : ∃ b, l[pos + 2]? = some b := ⟨l[pos + 2]'(by omega), List.getElem?_eq_getElem _⟩
            have ha256 := hb a (List.mem_of_getElem? ha)
            have hb256 := hb b (List.mem_of_getElem? hbb)
            have hixa : ∀ w, (Instr.index 9 (.string (strN l)) (.int .i64 ((pos : Int) + 1))).run Tryz.prog w = .ok (.int .u8 (a : Int)) w := by
              intro w
              have := index_strN l hb (pos + 1) (by omega) .i64 w
              rw [ha, show ((pos + 1 : Nat) : Int) = (pos : Int) + 1 by omega] at this; exact this
            have hixb : ∀ w, (Instr.index 9 (.string (strN l)) (.int .i64 ((pos : Int) + 2))).run Tryz.prog w = .ok (.int .u8 (b : Int)) w := by
              intro w
              have := index_strN l hb (pos + 2) (by omega) .i64 w
              rw [hbb, show ((pos + 2 : Nat) : Int) = (pos : Int) + 2 by omega] at this; exact this
            have hl3 : l.drop (pos + 1) = a :: b :: l.drop (pos + 3) := by rw [drop_cons ha, drop_cons hbb]
            have hxa : hexAt (l.drop (pos + 1)) = match hexV a, hexV b with | some h, some l => some (16 * h + l) | _, _ => none := by rw [hl3]; rfl
            have HXa : Hid (∀ w, _) := fun w => refHex_any a w ha256
            have HXb : Hid (∀ w, _) := fun w => refHex_any b w hb256
            cases hva : hexV a with
            | none =>
              rw [hva] at hxa
              rw [hxa] at hwp
              rw [hexI_none hva] at HXa
              have HN : Hid (way q l = none) := by show _ = _; rw [HW.out, hwp]; rfl
              clear hwp hc hpct ha hbb hl3 hxa hva
              go_wp2_with (first | (go_at_call 62; refine Calls.mono (HNx2.out _) ?_; rintro e w2 ⟨rfl, h2w⟩; subst w2) | (go_at_call 88; refine Calls.mono (HXa.out _) ?_; rintro e w2 ⟨rfl, h2w⟩; subst w2))
              go_ret2
              rw [rwayV_none HN.out]
              exact ⟨rfl, HB.out⟩
            | some x =>
              rw [hva] at hxa
              rw [hexI_some hva] at HXa
              have hx16 := AddrMath.hexV_lt hva
              cases hvb : hexV b with
              | none =>
                rw [hvb] at hxa
                rw [hxa] at hwp
                rw [hexI_none hvb] at HXb
                have HN : Hid (way q l = none) := by show _ = _; rw [HW.out, hwp]; rfl
                clear hwp hc hpct ha hbb hl3 hxa hva hvb
                go_wp2_with fail
                refine Calls.mono (HNx2.out _) ?_
                rintro e w2 ⟨rfl, h2w⟩
                subst w2
                go_wp2_with fail
                refine Calls.mono (HXa.out _) ?_
                rintro e w2 ⟨rfl, h2w⟩
                subst w2
                go_wp2_with fail
                refine Calls.mono (HXb.out _) ?_
                rintro e w2 ⟨rfl, h2w⟩
                subst w2
                go_wp2
                go_ret2
                rw [rwayV_none HN.out]
                exact ⟨rfl, HB.out⟩
              | some y =>
                rw [hvb] at hxa
                rw [hexI_some hvb] at HXb
                have hy16 := AddrMath.hexV_lt hvb
                rw [hxa] at hwp
                obtain ⟨v, hv⟩ : ∃ v, v = 16 * x + y := ⟨_, rfl⟩
                have HN : Hid (way q l = (way q (l.drop (pos + 3))).map ((acc ++ meant v) ++ ·)) := by show _ = _; rw [HW.out, hwp, hv]; exact map_app _ _ _
                have hvI : (16 : Int) * (x : Int) + (y : Int) = (v : Int) := by omega
                have hw16 : IntKind.i64.wrap (16 * (x : Int)) = 16 * (x : Int) := by rw [IntKind.wrap_i64]; omega
                have hwv : IntKind.i64.wrap (v : Int) = (v : Int) := by rw [IntKind.wrap_i64]; omega
                have hwu : IntKind.u8.wrap (v : Int) = (v : Int) := by simp [IntKind.wrap, IntKind.bits, IntKind.signed]; omega
                have hwp1 : IntKind.i64.wrap ((pos : Int) + 1) = (pos : Int) + 1 := by rw [IntKind.wrap_i64]; omega
                have hwp2 : IntKind.i64.wrap ((pos : Int) + 2) = (pos : Int) + 2 := by rw [IntKind.wrap_i64]; omega
                have hv256 : v < 256 := by omega
                have HV0 : Hid _ := hv
                clear hwp hc hpct ha hbb hl3 hxa hva hvb hv
                have HPl : Hid (∀ w, _) := fun w => refPlain_any v w hv256
                have HEs : Hid (∀ w, _) := fun w => refEscape_any v w hv256
                have HMe : Hid (meant v = if plain v then [v] else escape v) := rfl
                go_wp2_with fail
                refine Calls.mono (HNx2.out _) ?_
                rintro e w2 ⟨rfl, h2w⟩
                subst w2
                go_wp2_with fail
                refine Calls.mono (HXa.out _) ?_
                rintro e w2 ⟨rfl, h2w⟩
                subst w2
                go_wp2_with fail
                refine Calls.mono (HXb.out _) ?_
                rintro e w2 ⟨rfl, h2w⟩
                subst w2
                go_wp2_with fail
                go_quiet (first | with_reducible exact Calls.quiet_of_same (HXa.out _) | with_reducible exact Calls.quiet_of_same (HXb.out _))
                have HB6 : Hid (Below w.heap.size w (wr.drewN nq)) := Below.drewN HB.out _
                have hs6 := HB6.out.size
                generalize wr.drewN nq = w6 at *
                cases hpv : plain v with
                | true =>
                  rw [hpv] at HPl HMe
                  have HMe1 : Hid (meant v = [v]) := HMe.out
                  have hcs := fun w => one_string v w
                  have hcat := sum_strN acc [v] (by simp; omega)
                  go_wp2_with (go_at_call 89; refine Calls.mono (HPl.out _) ?_; rintro e w2 ⟨rfl, h2w⟩; subst w2)
                  exact ⟨⟨pos + 3, acc ++ [v], rfl, by simp, by omega, by simp; omega, by have := HN.out; rw [HMe1.out] at this; exact this, HB6.out.alloc hs6 _⟩, by simp [intOf]; omega⟩
                | false =>
                  rw [hpv] at HPl HMe
                  have HMe1 : Hid (meant v = escape v) := HMe.out
                  have hel : (escape v).length = 3 := rfl
                  have hcat := sum_strN acc (escape v) (by rw [hel]; omega)
                  rw [HMe1.out] at HN
                  have HEL : Hid _ := hel
                  clear hel HMe HMe1
                  generalize escape v = Ev at *
                  go_wp2_with (first | (go_at_call 89; refine Calls.mono (HPl.out _) ?_; rintro e w2 ⟨rfl, h2w⟩; subst w2) | (go_at_call 87; refine Calls.mono (HEs.out _) ?_; rintro e w7 ⟨rfl, hb7⟩; have HB7 : Hid _ := HB6.out.trans (hb7.mono hs6); clear hb7))
                  exact ⟨⟨pos + 3, acc ++ Ev, rfl, by simp, by omega, by rw [List.length_append, HEL.out]; omega, HN.out, HB7.out⟩, by simp [intOf]; omega⟩
          · have hxa := hexAt_none (l.drop (pos + 1)) (by simp; omega)
            rw [hxa] at hwp
            have HN : Hid (way q l = none) := by show _ = _; rw [HW.out, hwp]; rfl
            clear hwp hc hpct hxa
            go_wp2_with (first | (go_at_call 62; refine Calls.mono (HNx2.out _) ?_; rintro e w2 ⟨rfl, h2w⟩; subst w2))
            go_ret2
            rw [rwayV_none HN.out]
            exact ⟨rfl, HB.out⟩
        · have hne : ((c : Int) == 37) = false := by simp; omega
          have hwl := qway_low (q := q) hc hpct hc128
          have HPl : Hid (∀ w, _) := fun w => refPlain_any c w hc256
          have hcs := fun w => one_string c w
          have hcat := sum_strN acc [c] (by simp; omega)
          cases hpl2 : plain c with
          | true =>
            rw [hpl2] at HPl hwl
            have HN : Hid (way q l = (way q (l.drop (pos + 1))).map ((acc ++ [c]) ++ ·)) := by show _ = _; rw [HW.out, hwl]; exact map_app _ _ _
            clear hwl hc hpct
            go_wp2_with (first | (go_at_call 62; refine Calls.mono (HNx2.out _) ?_; rintro e w2 ⟨rfl, h2w⟩; subst w2) | (go_at_call 89; refine Calls.mono (HPl.out _) ?_; rintro e w2 ⟨rfl, h2w⟩; subst w2))
            exact ⟨⟨pos + 1, acc ++ [c], rfl, by simp, by omega, by simp; omega, HN.out, HB.out.alloc HB.out.size _⟩, by simp [intOf]; omega⟩
          | false =>
            rw [hpl2] at HPl hwl
            have HUp : Hid (∀ w, Calls Tryz.prog 56 #[.string ⟨#[33, 36, 38, 39, 40, 41, 42, 43, 44, 59, 61, 58, 64, 47]⟩, .string (strN [c])] w fun e w' => e = .returned (.int .i64 (((pre (is c) signs).length : Nat) : Int)) ∧ Below w.heap.size w w') := by
              intro w
              have := upTo_any signs [c] w (by decide) (by simpa using hc256) (by decide) (by simp)
              rw [anyOf_one] at this
              exact this
            have hup := signs_up ⟨c, hc256⟩
            simp only at hup
            have hxe : extra q c = (signs.contains c || (q && c == 63)) := rfl
            rw [hxe, ← hup] at hwl
            generalize (pre (is c) signs).length = U at *
            clear hup hxe
            by_cases hU : U < 14
            · rw [decide_eq_true hU] at hwl
              have HN : Hid (way q l = (way q (l.drop (pos + 1))).map ((acc ++ [c]) ++ ·)) := by show _ = _; rw [HW.out, hwl]; exact map_app _ _ _
              clear hwl hc hpct
              go_wp2_with (first | (go_at_call 62; refine Calls.mono (HNx2.out _) ?_; rintro e w2 ⟨rfl, h2w⟩; subst w2) | (go_at_call 89; refine Calls.mono (HPl.out _) ?_; rintro e w2 ⟨rfl, h2w⟩; subst w2) | (go_at_call 56; refine Calls.mono (HUp.out _) ?_; rintro e w5 ⟨rfl, hb5⟩; have HB5 : Hid _ := (HB.out.alloc HB.out.size _).trans (hb5.mono (by simp; have := HB.out.size; omega)); clear hb5))
              exact ⟨⟨pos + 1, acc ++ [c], rfl, by simp, by omega, by simp; omega, HN.out, HB5.out.alloc HB5.out.size _⟩, by simp [intOf]; omega⟩
            · rw [decide_eq_false hU] at hwl
              cases q with
              | false =>
                have HN : Hid (way false l = none) := by show _ = _; rw [HW.out, hwl]; rfl
                clear hwl hc hpct
                go_wp2_with (first | (go_at_call 62; refine Calls.mono (HNx2.out _) ?_; rintro e w2 ⟨rfl, h2w⟩; subst w2) | (go_at_call 89; refine Calls.mono (HPl.out _) ?_; rintro e w2 ⟨rfl, h2w⟩; subst w2) | (go_at_call 56; refine Calls.mono (HUp.out _) ?_; rintro e w5 ⟨rfl, hb5⟩; have HB5 : Hid _ := (HB.out.alloc HB.out.size _).trans (hb5.mono (by simp; have := HB.out.size; omega)); clear hb5))
                go_ret2
                rw [rwayV_none HN.out]
                exact ⟨rfl, HB5.out⟩
              | true =>
                by_cases h63 : c = 63
                · have HN : Hid (way true l = (way true (l.drop (pos + 1))).map ((acc ++ [c]) ++ ·)) := by show _ = _; rw [HW.out, hwl, h63]; exact map_app _ _ _
                  have h63b : ((c : Int) == 63) = true := by simp; omega
                  clear hwl hc hpct h63
                  go_wp2_with (first | (go_at_call 62; refine Calls.mono (HNx2.out _) ?_; rintro e w2 ⟨rfl, h2w⟩; subst w2) | (go_at_call 89; refine Calls.mono (HPl.out _) ?_; rintro e w2 ⟨rfl, h2w⟩; subst w2) | (go_at_call 56; refine Calls.mono (HUp.out _) ?_; rintro e w5 ⟨rfl, hb5⟩; have HB5 : Hid _ := (HB.out.alloc HB.out.size _).trans (hb5.mono (by simp; have := HB.out.size; omega)); clear hb5))
                  exact ⟨⟨pos + 1, acc ++ [c], rfl, by simp, by omega, by simp; omega, HN.out, HB5.out.alloc HB5.out.size _⟩, by simp [intOf]; omega⟩
                · have hn63 : ((c : Int) == 63) = false := by simp; omega
                  have HN : Hid (way true l = none) := by show _ = _; rw [HW.out, hwl]; simp [h63]
                  clear hwl hc hpct h63
                  go_wp2_with (first | (go_at_call 62; refine Calls.mono (HNx2.out _) ?_; rintro e w2 ⟨rfl, h2w⟩; subst w2) | (go_at_call 89; refine Calls.mono (HPl.out _) ?_; rintro e w2 ⟨rfl, h2w⟩; subst w2) | (go_at_call 56; refine Calls.mono (HUp.out _) ?_; rintro e w5 ⟨rfl, hb5⟩; have HB5 : Hid _ := (HB.out.alloc HB.out.size _).trans (hb5.mono (by simp; have := HB.out.size; omega)); clear hb5))
                  go_ret2
                  rw [rwayV_none HN.out]
                  exact ⟨rfl, HB5.out⟩
      · have hr128 := AddrMath.dec_big hc (by omega)
        rw [hdec] at hr128
        simp only at hr128
        have hwh := qway_high (q := q) hc (by omega) hdec
        have hdl : n ≤ (l.drop pos).length := by
          have := TxtMath.dec_le (l.drop pos) (by intro e; have := congrArg List.length e; simp at this; omega)
          rw [hdec] at this; exact this
        rw [List.length_drop] at hdl
        have hd1 := (TxtMath.dec_pos (l.drop pos))
        rw [hdec] at hd1
        simp only at hd1
        have hrv := TxtMath.valid_le (TxtMath.dec_valid (l.drop pos))
        rw [hdec] at hrv
        simp only at hrv
        by_cases hn1 : n = 1
        · rw [if_pos hn1] at hwh
          have hr65 := TxtMath.dec_one (l.drop pos) (by rw [hdec]; exact hn1) (by rw [AddrMath.byteAt_drop hc]; omega)
          rw [hdec] at hr65
          simp only at hr65
          have hq1 : ((r : Int) == 65533) = true := by simp; omega
          have hq2 : ((n : Int) == 1) = true := by simp; omega
          have HN : Hid (way q l = none) := by show _ = _; rw [HW.out, hwh]; rfl
          clear hwh hc hdec hn1 hr65
          go_wp2_with (go_at_call 62; refine Calls.mono (HNx.out _) ?_; rintro e w2 ⟨rfl, h2w⟩; subst w2)
          go_ret2
          rw [rwayV_none HN.out]
          exact ⟨rfl, HB.out⟩
        · rw [if_neg hn1] at hwh
          have hq2 : ((n : Int) == 1) = false := by simp; omega
          obtain ⟨T, hT⟩ : ∃ T, T = (l.drop pos).take n := ⟨_, rfl⟩
          have HTl : Hid (T.length = n) := by show _ = _; rw [hT, List.length_take, List.length_drop]; omega
          have HTg : Hid (∀ i c : Nat, T[i]? = some c → l[pos + i]? = some c) := by
            intro i c h
            rw [hT, List.getElem?_take] at h
            split at h
            · rw [List.getElem?_drop] at h; exact h
            · cases h
          rw [← hT] at hwh
          have HN : Hid (way q l = (way q (l.drop (pos + n))).map ((acc ++ T.flatMap escape) ++ ·)) := by show _ = _; rw [HW.out, hwh]; exact map_app _ _ _
          clear hwh hc hdec hn1 hT
          have hqr : ((r : Int) == 65533) = decide (r = 65533) := by rw [Bool.eq_iff_iff]; simp; omega
          cases hr65 : decide (r = 65533) with
          | true =>
            rw [hr65] at hqr
            clear hr65
            go_wp2_with (go_at_call 62; refine Calls.mono (HNx.out _) ?_; rintro e w2 ⟨rfl, h2w⟩; subst w2)
            generalize Value.bool (decide ((128 : Int) ≤ (r : Int))) = b33
            go_loopw [6, 11] (fun out i wr => ∃ j : Nat, j ≤ n ∧ i = .int .i64 (j : Int) ∧ out = .string (strN (acc ++ (T.take j).flatMap escape)) ∧ Below w.heap.size w wr) (fun _ i _ => n - (intOf i).toNat)
            case atStart => exact ⟨0, by omega, rfl, by simp, HB.out⟩
            case round =>
              obtain ⟨j, hj, rfl, rfl, hbw⟩ := hrel
              have HB8 : Hid _ := hbw
              clear hbw
              by_cases hjn : j < n
              · obtain ⟨d, hd⟩ : ∃ d, T[j]? = some d := ⟨T[j]'(by rw [HTl.out]; exact hjn), List.getElem?_eq_getElem _⟩
                have hld := HTg.out j d hd
                have hd256 := HBY.out d (List.mem_of_getElem? hld)
                have hixd : ∀ w, (Instr.index 9 (.string (strN l)) (.int .i64 ((pos : Int) + (j : Int)))).run Tryz.prog w = .ok (.int .u8 (d : Int)) w := by
                  intro w
                  have := index_strN l HBY.out (pos + j) (by omega) .i64 w
                  rw [hld, show ((pos + j : Nat) : Int) = (pos : Int) + (j : Int) by omega] at this; exact this
                have HF : Hid _ := flatMap_take_succ T j d hd
                have HEs : Hid (∀ w, _) := fun w => refEscape_any d w hd256
                have hln : (acc ++ (T.take j).flatMap escape).length ≤ 3 * pos + 12 := by
                  rw [List.length_append, escs_len, List.length_take, HTl.out]; omega
                have hcat := sum_strN (acc ++ (T.take j).flatMap escape) (escape d) (by simp [escape] at *; omega)
                have HA2 : Hid (acc ++ (T.take (j + 1)).flatMap escape = (acc ++ (T.take j).flatMap escape) ++ escape d) := by show _ = _; rw [HF.out, List.append_assoc]
                clear hd hld
                generalize escape d = Ed at *
                generalize acc ++ (T.take j).flatMap escape = A1 at *
                go_wp2_with (go_at_call 87; refine Calls.mono (HEs.out _) ?_; rintro e w9 ⟨rfl, hb9⟩; have HB9 : Hid _ := HB8.out.trans (hb9.mono HB8.out.size); clear hb9)
                go_roundw
                case rel => exact ⟨j + 1, by omega, by simp, by rw [HA2.out], HB9.out⟩
                case measure => simp [intOf]; omega
              · have e : j = n := by omega
                subst e
                have HTE : Hid (T.take j = T) := List.take_of_length_le (by rw [HTl.out]; omega)
                rw [HTE.out]
                have hln : (acc ++ T.flatMap escape).length ≤ 3 * (pos + j) := by
                  rw [List.length_append, escs_len, HTl.out]; omega
                generalize acc ++ T.flatMap escape = A1 at *
                go_wp2
                go_roundw
                case rel => exact ⟨pos + j, A1, rfl, by simp, by omega, hln, HN.out, HB8.out⟩
                case measure => simp [intOf]; omega
          | false =>
            rw [hr65] at hqr
            clear hr65
            go_wp2_with (go_at_call 62; refine Calls.mono (HNx.out _) ?_; rintro e w2 ⟨rfl, h2w⟩; subst w2)
            generalize Value.bool (decide ((128 : Int) ≤ (r : Int))) = b33
            go_loopw [6, 11] (fun out i wr => ∃ j : Nat, j ≤ n ∧ i = .int .i64 (j : Int) ∧ out = .string (strN (acc ++ (T.take j).flatMap escape)) ∧ Below w.heap.size w wr) (fun _ i _ => n - (intOf i).toNat)
            case atStart => exact ⟨0, by omega, rfl, by simp, HB.out⟩
            case round =>
              obtain ⟨j, hj, rfl, rfl, hbw⟩ := hrel
              have HB8 : Hid _ := hbw
              clear hbw
              by_cases hjn : j < n
              · obtain ⟨d, hd⟩ : ∃ d, T[j]? = some d := ⟨T[j]'(by rw [HTl.out]; exact hjn), List.getElem?_eq_getElem _⟩
                have hld := HTg.out j d hd
                have hd256 := HBY.out d (List.mem_of_getElem? hld)
                have hixd : ∀ w, (Instr.index 9 (.string (strN l)) (.int .i64 ((pos : Int) + (j : Int)))).run Tryz.prog w = .ok (.int .u8 (d : Int)) w := by
                  intro w
                  have := index_strN l HBY.out (pos + j) (by omega) .i64 w
                  rw [hld, show ((pos + j : Nat) : Int) = (pos : Int) + (j : Int) by omega] at this; exact this
                have HF : Hid _ := flatMap_take_succ T j d hd
                have HEs : Hid (∀ w, _) := fun w => refEscape_any d w hd256
                have hln : (acc ++ (T.take j).flatMap escape).length ≤ 3 * pos + 12 := by
                  rw [List.length_append, escs_len, List.length_take, HTl.out]; omega
                have hcat := sum_strN (acc ++ (T.take j).flatMap escape) (escape d) (by simp [escape] at *; omega)
                have HA2 : Hid (acc ++ (T.take (j + 1)).flatMap escape = (acc ++ (T.take j).flatMap escape) ++ escape d) := by show _ = _; rw [HF.out, List.append_assoc]
                clear hd hld
                generalize escape d = Ed at *
                generalize acc ++ (T.take j).flatMap escape = A1 at *
                go_wp2_with (go_at_call 87; refine Calls.mono (HEs.out _) ?_; rintro e w9 ⟨rfl, hb9⟩; have HB9 : Hid _ := HB8.out.trans (hb9.mono HB8.out.size); clear hb9)
                go_roundw
                case rel => exact ⟨j + 1, by omega, by simp, by rw [HA2.out], HB9.out⟩
                case measure => simp [intOf]; omega
              · have e : j = n := by omega
                subst e
                have HTE : Hid (T.take j = T) := List.take_of_length_le (by rw [HTl.out]; omega)
                rw [HTE.out]
                have hln : (acc ++ T.flatMap escape).length ≤ 3 * (pos + j) := by
                  rw [List.length_append, escs_len, HTl.out]; omega
                generalize acc ++ T.flatMap escape = A1 at *
                go_wp2
                go_roundw
                case rel => exact ⟨pos + j, A1, rfl, by simp, by omega, hln, HN.out, HB8.out⟩
                case measure => simp [intOf]; omega
    · have hpp : pos = l.length := by omega
      have HF : Hid (way q l = some acc) := by
        show _ = _
        rw [HW.out, List.drop_eq_nil_of_le (by omega)]
        show some (acc ++ []) = _
        rw [List.append_nil]
      clear hpp
      go_wp2
      go_ret2
      rw [rwayV_some HF.out]
      exact ⟨rfl, HB.out⟩
end Go.Proofs.YteockpllnhjooaaGreatDoor
namespace Go.Proofs.YteockpllnhjooaaGreatDoor
open Go.RowKit NumMath
open AddrMath (pre post is No colon lower way dots combine finish parse http https isHost isPort value usual Sch Parts5 schemeOf)
set_option maxRecDepth 100000
set_option linter.unusedVariables false
set_option linter.unusedSimpArgs false

theorem upTo_at (l S : List Nat) (k : Nat) (hb : ∀ c ∈ l, c < 256) (hS : ∀ c ∈ S, c < 256) (hm : l.length ≤ 1000000) (hSm : S.length ≤ 1000000) (hk : (pre (anyOf S) l).length = k) (w : World) :
    Calls Tryz.prog 56 #[.string (strN l), .string (strN S)] w fun e w' => e = .returned (.int .i64 (k : Int)) ∧ Below w.heap.size w w' := by
  rw [← hk]; exact upTo_any l S w hb hS hm hSm
theorem slice_to {w : World} (l a : List Nat) (k : Nat) (hk : k ≤ l.length) (ha : l.take k = a) : (Instr.sliceAt 9 (.string (strN l)) none (some (.int .i64 (k : Int))) none).run Tryz.prog w = .ok (.string (strN a)) w := by
  rw [← ha]; exact run_slice_strN0 l .i64 k hk
theorem slice_from {w : World} (l a : List Nat) (k : Nat) (hk : k ≤ l.length) (ha : l.drop k = a) : (Instr.sliceAt 9 (.string (strN l)) (some (.int .i64 (k : Int))) none none).run Tryz.prog w = .ok (.string (strN a)) w := by
  rw [← ha]; exact run_slice_from l .i64 k hk
theorem No.any2 {a b : Nat} {l : List Nat} (h1 : No (is a) l) (h2 : No (is b) l) : No (anyOf [a, b]) l := by
  intro x hx
  have e1 := h1 x hx
  have e2 := h2 x hx
  simp [is] at e1 e2
  simp [anyOf, e1, e2]
theorem No.any3 {a b c : Nat} {l : List Nat} (h1 : No (is a) l) (h2 : No (is b) l) (h3 : No (is c) l) : No (anyOf [a, b, c]) l := by
  intro x hx
  have e1 := h1 x hx
  have e2 := h2 x hx
  have e3 := h3 x hx
  simp [is] at e1 e2 e3
  simp [anyOf, e1, e2, e3]
theorem rway_path {pa : List Nat} (h0 : AddrMath.Ends (is 47) pa) (hn : No (is 63) pa) : rwayV false pa = match way true pa.tail with | some p => .tuple #[.string (strN (if pa = [] then [] else 47 :: p)), .bool true] | none => .tuple #[.string (strN []), .bool false] := by
  rcases h0 with rfl | ⟨c, t, rfl, hc⟩
  · rfl
  · have : c = 47 := by simpa [is] using hc
    subst this
    have e : way false (47 :: t) = (way true t).map (47 :: ·) := by
      rw [AddrMath.way_low t (by decide) (by decide), if_pos (by decide), AddrMath.way_no63 t.length t (Nat.le_refl _) (hn.tail)]
    show rwayV false (47 :: t) = match way true t with | some p => _ | none => _
    cases h : way true t with
    | none => exact rwayV_none (by rw [e, h]; rfl)
    | some p => exact rwayV_some (by rw [e, h]; rfl)
theorem rway_query {qu : List Nat} (h0 : AddrMath.Ends (is 63) qu) : rwayV true qu = match way true qu.tail with | some y => .tuple #[.string (strN (if qu = [] then [] else 63 :: y)), .bool true] | none => .tuple #[.string (strN []), .bool false] := by
  rcases h0 with rfl | ⟨c, t, rfl, hc⟩
  · rfl
  · have : c = 63 := by simpa [is] using hc
    subst this
    have e : way true (63 :: t) = (way true t).map (63 :: ·) := by
      rw [AddrMath.way_low t (by decide) (by decide), if_pos (by decide)]
    show rwayV true (63 :: t) = match way true t with | some p => _ | none => _
    cases h : way true t with
    | none => exact rwayV_none (by rw [e, h]; rfl)
    | some p => exact rwayV_some (by rw [e, h]; rfl)
/-- The number that isn't told. -/
def usualN (sch : List Nat) : Nat := if sch = https then 443 else 80
theorem usual_num {sch p : List Nat} (h : isPort p = true) : (p = usual sch ↔ value p = usualN sch) := by
  have := AddrMath.port_usual h
  unfold usual usualN
  split
  · exact this.2
  · exact this.1

set_option maxRecDepth 100000 in
set_option maxHeartbeats 8000000 in
theorem refParse_err (s : List Nat) (w : World) (hb : ∀ c ∈ s, c < 256) (hm : s.length ≤ 10000) (hno : schemeOf s = none) :
    Calls Tryz.prog 30 #[.string (strN s)] w fun e w' => e = .returned (.tuple #[.string (strN []), .int .i64 25]) ∧ Below w.heap.size w w' := by
  have hsz := strN_size s
  have HU1 : Hid (∀ w, _) := fun w => upTo_at s [58] (pre (is 58) s).length hb (by decide) (by omega) (by decide) (by rw [anyOf_one]) w
  have hub : ∀ c ∈ pre (is 58) s, c < 256 := fun c hc => hb c (AddrMath.pre_mem hc)
  have hul := AddrMath.pre_len (is 58) s
  have hs1 := fun w => slice_to (w := w) s (pre (is 58) s) (pre (is 58) s).length hul (AddrMath.pre_take _ _)
  have HLo : Hid (∀ w, _) := fun w => refLower_any (pre (is 58) s) w hub (by omega)
  have hLb := AddrMath.lower_lt hub
  have hs2 : (pre (is 58) s).length + 3 ≤ s.length → ∀ w, (Instr.sliceAt 9 (.string (strN s)) (some (.int .i64 (((pre (is 58) s).length : Nat) : Int))) (some (.int .i64 ((((pre (is 58) s).length : Nat) : Int) + 3))) none).run Tryz.prog w = .ok (.string (strN ((post (is 58) s).take 3))) w := by
    intro h w
    have := run_slice_strN (w := w) s .i64 .i64 (pre (is 58) s).length ((pre (is 58) s).length + 3) (by omega) h
    rw [AddrMath.post_drop, Nat.add_sub_cancel_left] at this
    exact this
  have hno2 : ¬ ((lower (pre (is 58) s) = http ∨ lower (pre (is 58) s) = https) ∧ (post (is 58) s).take 3 = colon) := by
    intro h
    unfold schemeOf at hno
    rw [if_pos h] at hno
    cases hno
  have hpb : ∀ c ∈ (post (is 58) s).take 3, c < 256 := fun c hc => hb c (AddrMath.post_mem (List.mem_of_mem_take hc))
  generalize lower (pre (is 58) s) = U at *
  obtain ⟨n, hn⟩ : ∃ n, n = (pre (is 58) s).length := ⟨_, rfl⟩
  rw [← hn] at HU1 hs1 hs2 hul
  generalize pre (is 58) s = u at *
  generalize (post (is 58) s).take 3 = T at *
  clear hn hno
  have hq1 := eq_lit http [104, 116, 116, 112] rfl hLb (by decide)
  have hq2 := eq_lit https [104, 116, 116, 112, 115] rfl hLb (by decide)
  have hq3 := eq_lit colon [58, 47, 47] rfl hpb (by decide)
  by_cases hU2 : U = https
  · have hU1 : ¬ U = http := by rw [hU2]; decide
    rw [decide_eq_true hU2] at hq2
    rw [decide_eq_false hU1] at hq1
    have hT : ¬ T = colon := fun e => hno2 ⟨.inr hU2, e⟩
    rw [decide_eq_false hT] at hq3
    clear hU1 hU2 hT hno2
    by_cases hl3 : n + 3 ≤ s.length
    · have hs3 := hs2 hl3
      clear hs2
      go_enter Tryz.func30, Tryz.ntmps30
      go_wp2_with fail
      refine Calls.mono (HU1.out _) ?_
      rintro e w5 ⟨rfl, hb5⟩
      have HB5 : Hid _ := hb5
      clear hb5
      go_wp2_with fail
      refine Calls.mono (HLo.out _) ?_
      rintro e w6 ⟨rfl, hb6⟩
      have HB6 : Hid _ := HB5.out.trans (hb6.mono HB5.out.size)
      clear hb6
      go_wp2
      go_ret2
      exact ⟨rfl, HB6.out⟩
    · clear hs2
      go_enter Tryz.func30, Tryz.ntmps30
      go_wp2_with fail
      refine Calls.mono (HU1.out _) ?_
      rintro e w7 ⟨rfl, hb7⟩
      have HB7 : Hid _ := hb7
      clear hb7
      go_wp2_with fail
      refine Calls.mono (HLo.out _) ?_
      rintro e w8 ⟨rfl, hb8⟩
      have HB8 : Hid _ := HB7.out.trans (hb8.mono HB7.out.size)
      clear hb8
      go_wp2
      go_ret2
      exact ⟨rfl, HB8.out⟩
  · rw [decide_eq_false hU2] at hq2
    by_cases hU1 : U = http
    · rw [decide_eq_true hU1] at hq1
      have hT : ¬ T = colon := fun e => hno2 ⟨.inl hU1, e⟩
      rw [decide_eq_false hT] at hq3
      clear hU1 hU2 hT hno2
      by_cases hl3 : n + 3 ≤ s.length
      · have hs3 := hs2 hl3
        clear hs2
        go_enter Tryz.func30, Tryz.ntmps30
        go_wp2_with fail
        refine Calls.mono (HU1.out _) ?_
        rintro e w1 ⟨rfl, hb1⟩
        have HB1 : Hid _ := hb1
        clear hb1
        go_wp2_with fail
        refine Calls.mono (HLo.out _) ?_
        rintro e w2 ⟨rfl, hb2⟩
        have HB2 : Hid _ := HB1.out.trans (hb2.mono HB1.out.size)
        clear hb2
        go_wp2
        go_ret2
        exact ⟨rfl, HB2.out⟩
      · clear hs2
        go_enter Tryz.func30, Tryz.ntmps30
        go_wp2_with fail
        refine Calls.mono (HU1.out _) ?_
        rintro e w3 ⟨rfl, hb3⟩
        have HB3 : Hid _ := hb3
        clear hb3
        go_wp2_with fail
        refine Calls.mono (HLo.out _) ?_
        rintro e w4 ⟨rfl, hb4⟩
        have HB4 : Hid _ := HB3.out.trans (hb4.mono HB3.out.size)
        clear hb4
        go_wp2
        go_ret2
        exact ⟨rfl, HB4.out⟩
    · rw [decide_eq_false hU1] at hq1
      clear hU1 hU2 hno2 hs2
      go_enter Tryz.func30, Tryz.ntmps30
      go_wp2_with fail
      refine Calls.mono (HU1.out _) ?_
      rintro e w9 ⟨rfl, hb9⟩
      have HB9 : Hid _ := hb9
      clear hb9
      go_wp2_with fail
      refine Calls.mono (HLo.out _) ?_
      rintro e w10 ⟨rfl, hb10⟩
      have HB10 : Hid _ := HB9.out.trans (hb10.mono HB9.out.size)
      clear hb10
      go_wp2
      go_ret2
      exact ⟨rfl, HB10.out⟩

/-- The path and the query, as the two calls answer. -/
theorem way_pack (pa qu : List Nat) (h1 : AddrMath.Ends (is 47) pa) (h2 : No (is 63) pa) (h3 : AddrMath.Ends (is 63) qu) (hpb : ∀ c ∈ pa, c < 256) (hqb : ∀ c ∈ qu, c < 256) (hpl : pa.length ≤ 10000) (hql : qu.length ≤ 10000) :
    ∃ (b1 b2 z : Bool) (Z Q D : List Nat), Z.length ≤ 30001 ∧ Q.length ≤ 30001 ∧ D.length ≤ 30001 ∧
      (∀ w, Calls Tryz.prog 60 #[.string (strN pa), .bool false] w fun e w' => e = .returned (.tuple #[.string (strN Z), .bool b1]) ∧ Below w.heap.size w w') ∧
      (∀ w, Calls Tryz.prog 60 #[.string (strN qu), .bool true] w fun e w' => e = .returned (.tuple #[.string (strN Q), .bool b2]) ∧ Below w.heap.size w w') ∧
      ((strN Z).toList == []) = z ∧
      (b1 = true → z = true → ∀ w, Calls Tryz.prog 61 #[.string (strN [47])] w fun e w' => e = .returned (.string (strN D)) ∧ Below w.heap.size w w') ∧
      (b1 = true → z = false → ∀ w, Calls Tryz.prog 61 #[.string (strN Z)] w fun e w' => e = .returned (.string (strN D)) ∧ Below w.heap.size w w') ∧
      (∀ X : List Nat, (match way true pa.tail, way true qu.tail with | some p, some y => some (X ++ (dots p ++ (if qu = [] then [] else 63 :: y))) | _, _ => none) = if b1 && b2 then some (X ++ (D ++ Q)) else none) := by
  have hwl : ∀ l p : List Nat, l.length ≤ 10000 → way true l = some p → (∀ c ∈ p, c < 256) ∧ p.length ≤ 30000 := by
    intro l p h2 hw
    have h3 := AddrMath.way_len l.length l p (Nat.le_refl _) hw
    exact ⟨AddrMath.norm_lt (AddrMath.norm_way l.length l p (Nat.le_refl _) hw), by omega⟩
  have hpt : pa.tail.length ≤ 10000 ∧ qu.tail.length ≤ 10000 := by rw [List.length_tail, List.length_tail]; omega
  have W1 := fun w => refWay_any pa false w hpb (by omega)
  have W2 := fun w => refWay_any qu true w hqb (by omega)
  rw [rway_path h1 h2] at W1
  rw [rway_query h3] at W2
  have q2 : ∃ (b2 : Bool) (Q : List Nat), Q.length ≤ 30001 ∧ (∀ w, Calls Tryz.prog 60 #[.string (strN qu), .bool true] w fun e w' => e = .returned (.tuple #[.string (strN Q), .bool b2]) ∧ Below w.heap.size w w') ∧ (∀ X : List Nat, (match way true qu.tail with | some y => some (X ++ (if qu = [] then [] else 63 :: y)) | none => none) = if b2 then some (X ++ Q) else none) := by
    cases hy : way true qu.tail with
    | none => rw [hy] at W2; exact ⟨false, [], by simp, W2, fun X => rfl⟩
    | some y =>
      rw [hy] at W2
      have := hwl qu.tail y hpt.2 hy
      exact ⟨true, _, by split <;> simp; omega, W2, fun X => rfl⟩
  obtain ⟨b2, Q, hQ, hW2, hX2⟩ := q2
  cases hp : way true pa.tail with
  | none =>
    rw [hp] at W1
    exact ⟨false, b2, true, [], Q, [], by simp, hQ, by simp, W1, hW2, by rw [eq_lit [] [] rfl (by simp) (by simp)]; rfl, (fun h => by cases h), (fun h => by cases h), fun X => rfl⟩
  | some p =>
    rw [hp] at W1
    dsimp only at W1
    obtain ⟨hb, hl⟩ := hwl pa.tail p hpt.1 hp
    have hD := fun w => refDots_any p w hb (by omega)
    have hDl := AddrMath.dots_len p
    have hXX : ∀ X : List Nat, (match some p, way true qu.tail with | some p, some y => some (X ++ (dots p ++ (if qu = [] then [] else 63 :: y))) | _, _ => none) = if true && b2 then some (X ++ (dots p ++ Q)) else none := by
      intro X
      have := hX2 (X ++ dots p)
      rw [List.append_assoc] at this
      rw [Bool.true_and, ← this]
      cases way true qu.tail with
      | none => rfl
      | some y => simp
    by_cases hpa : pa = []
    · have hp0 : p = [] := by
        rw [hpa] at hp
        exact (Option.some.inj hp).symm
      rw [if_pos hpa] at W1
      refine ⟨true, b2, true, [], Q, dots p, by simp, hQ, by omega, W1, hW2, by rw [eq_lit [] [] rfl (by simp) (by simp)]; rfl, ?_, (fun _ h => by cases h), hXX⟩
      intro _ _ w
      have := hD w
      rw [hp0] at this ⊢
      exact this
    · rw [if_neg hpa] at W1
      refine ⟨true, b2, false, 47 :: p, Q, dots p, by simp; omega, hQ, by omega, W1, hW2, ?_, (fun _ h => by cases h), (fun _ _ w => hD w), hXX⟩
      rw [eq_lit [] [] rfl (by intro c hc; rcases List.mem_cons.1 hc with h | h; omega; exact hb c h) (by simp)]
      simp
theorem comb_pack {sch h po pa qu D Q : List Nat} {b1 b2 : Bool} (hX : ∀ X : List Nat, (match way true pa.tail, way true qu.tail with | some p, some y => some (X ++ (dots p ++ (if qu = [] then [] else 63 :: y))) | _, _ => none) = if b1 && b2 then some (X ++ (D ++ Q)) else none) :
    combine sch h po pa qu = if isHost (lower h) && (po.isEmpty || isPort po.tail) then (if b1 && b2 then some (((sch ++ colon) ++ lower h) ++ (if po = [] ∨ po.tail = usual sch then [] else po) ++ (D ++ Q)) else none) else none := by
  rw [← hX]
  unfold combine
  cases way true pa.tail with
  | none => rfl
  | some p =>
    cases way true qu.tail with
    | none => rfl
    | some y => simp only [List.append_assoc]
theorem finish_false {x : Option (List Nat)} {b : Bool} {y : List Nat} (h : x = if b then some y else none) (hb : b = false) : finish x = ([], 25) := by
  rw [h, hb]; rfl
theorem finish_true {x : Option (List Nat)} {b1 b2 : Bool} {y z : List Nat} (h : x = if b1 && b2 then some y else none) (h1 : b1 = true) (h2 : b2 = true) (hz : z = y) : finish x = if z.length ≤ 200 then (z, 0) else ([], 23) := by
  rw [h, h1, h2, hz]; rfl
end Go.Proofs.YteockpllnhjooaaGreatDoor
namespace Go.Proofs.YteockpllnhjooaaGreatDoor
open Go.RowKit NumMath
open AddrMath (pre post is No colon lower way dots combine finish parse http https isHost isPort value usual Sch Parts5 schemeOf)
set_option maxRecDepth 100000
set_option linter.unusedVariables false
set_option linter.unusedSimpArgs false

set_option maxRecDepth 100000 in
set_option maxHeartbeats 16000000 in
theorem refParse_80 (u sch h po pa qu fr : List Nat) (w : World) (hu : lower u = sch) (hsch : sch = http) (P : Parts5 h po pa qu fr) (hb : ∀ c ∈ u ++ (colon ++ (h ++ (po ++ (pa ++ (qu ++ fr))))), c < 256) (hm : (u ++ (colon ++ (h ++ (po ++ (pa ++ (qu ++ fr)))))).length ≤ 10000) :
    Calls Tryz.prog 30 #[.string (strN (u ++ (colon ++ (h ++ (po ++ (pa ++ (qu ++ fr)))))))] w fun e w' => e = .returned (.tuple #[.string (strN (finish (combine sch h po pa qu)).1), .int .i64 (((finish (combine sch h po pa qu)).2 : Nat) : Int)]) ∧ Below w.heap.size w w' := by
  have hS : Sch sch := .inl hsch
  have hk1 : ((strN sch).toList == [104, 116, 116, 112]) = true := by rw [eq_lit http [104, 116, 116, 112] rfl (by rw [hsch]; decide) (by decide), hsch]; decide
  have hk2 : ((strN sch).toList == [104, 116, 116, 112, 115]) = false := by rw [eq_lit https [104, 116, 116, 112, 115] rfl (by rw [hsch]; decide) (by decide), hsch]; decide
  have HUS : Hid (usualN sch = 80) := by show _ = _; rw [hsch]; rfl
  obtain ⟨s, hs⟩ : ∃ s, s = u ++ (colon ++ (h ++ (po ++ (pa ++ (qu ++ fr))))) := ⟨_, rfl⟩
  obtain ⟨t, ht⟩ : ∃ t, t = h ++ (po ++ (pa ++ (qu ++ fr))) := ⟨_, rfl⟩
  obtain ⟨t0, ht0⟩ : ∃ t, t = h ++ (po ++ (pa ++ qu)) := ⟨_, rfl⟩
  obtain ⟨t1, ht1⟩ : ∃ t, t = po ++ (pa ++ qu) := ⟨_, rfl⟩
  obtain ⟨t2, ht2⟩ : ∃ t, t = pa ++ qu := ⟨_, rfl⟩
  rw [← hs] at hb hm ⊢
  have hsb : ∀ c, c ∈ u ∨ c ∈ h ∨ c ∈ po ∨ c ∈ pa ∨ c ∈ qu ∨ c ∈ fr → c < 256 := by
    intro c hc
    apply hb
    rw [hs]
    simp only [List.mem_append]
    rcases hc with h | h | h | h | h | h <;> simp [h]
  have hub : ∀ c ∈ u, c < 256 := fun c hc => hsb c (.inl hc)
  have hhb : ∀ c ∈ h, c < 256 := fun c hc => hsb c (.inr (.inl hc))
  have hpob : ∀ c ∈ po, c < 256 := fun c hc => hsb c (.inr (.inr (.inl hc)))
  have hpab : ∀ c ∈ pa, c < 256 := fun c hc => hsb c (.inr (.inr (.inr (.inl hc))))
  have hqub : ∀ c ∈ qu, c < 256 := fun c hc => hsb c (.inr (.inr (.inr (.inr (.inl hc)))))
  have hfrb : ∀ c ∈ fr, c < 256 := fun c hc => hsb c (.inr (.inr (.inr (.inr (.inr hc)))))
  have ht2b : ∀ c ∈ t2, c < 256 := by rw [ht2]; exact app_lt hpab hqub
  have ht1b : ∀ c ∈ t1, c < 256 := by rw [ht1]; exact app_lt hpob (app_lt hpab hqub)
  have ht0b : ∀ c ∈ t0, c < 256 := by rw [ht0]; exact app_lt hhb (app_lt hpob (app_lt hpab hqub))
  have htb : ∀ c ∈ t, c < 256 := by rw [ht]; exact app_lt hhb (app_lt hpob (app_lt hpab (app_lt hqub hfrb)))
  have hlens : s.length = u.length + 3 + (h.length + (po.length + (pa.length + (qu.length + fr.length)))) := by rw [hs]; simp [colon]; omega
  have hsz := strN_size s
  have hsch5 : sch.length ≤ 5 := by rcases hS with e | e <;> rw [e] <;> decide
  have hul : u.length ≤ 5 := by rw [← AddrMath.lower_len u, hu]; exact hsch5
  have hn58 : No (is 58) u := Sch.no hu hS (by decide)
  -- where the parts stand
  have e1 : (pre (anyOf [58]) s).length = u.length := by rw [anyOf_one, hs]; show (pre (is 58) (u ++ 58 :: _)).length = _; rw [AddrMath.pre_hit (by rfl) _ hn58]
  have HU1 : Hid (∀ w, _) := fun w => upTo_at s [58] u.length hb (by decide) (by omega) (by decide) e1 w
  have hs1 := fun w => slice_to (w := w) s u u.length (by omega) (by rw [hs, List.take_left])
  have HLo1 : Hid (∀ w, _) := fun w => refLower_any u w hub (by omega)
  rw [hu] at HLo1
  have hs2 : ∀ w, (Instr.sliceAt 9 (.string (strN s)) (some (.int .i64 ((u.length : Nat) : Int))) (some (.int .i64 (((u.length : Nat) : Int) + 3))) none).run Tryz.prog w = .ok (.string (strN colon)) w := by
    intro w
    have := run_slice_strN (w := w) s .i64 .i64 u.length (u.length + 3) (by omega) (by omega)
    rw [Nat.add_sub_cancel_left, show (s.drop u.length).take 3 = colon by rw [hs, List.drop_left]; rfl] at this
    exact this
  have hq3 : ((strN colon).toList == [58, 47, 47]) = true := by rw [eq_lit colon [58, 47, 47] rfl (by decide) (by decide)]; simp
  have hs3 : ∀ w, (Instr.sliceAt 9 (.string (strN s)) (some (.int .i64 (((u.length : Nat) : Int) + 3))) none none).run Tryz.prog w = .ok (.string (strN t)) w := by
    intro w
    have := slice_from (w := w) s t (u.length + 3) (by omega) (by rw [hs, ← List.drop_drop, List.drop_left, ht]; rfl)
    rw [show ((u.length + 3 : Nat) : Int) = (u.length : Int) + 3 by omega] at this
    exact this
  have htl : t.length ≤ 10000 := by rw [ht]; simp; omega
  have ht0l : t0.length ≤ 10000 := by rw [ht0]; simp; omega
  have ht1l : t1.length ≤ 10000 := by rw [ht1]; simp; omega
  have ht2l : t2.length ≤ 10000 := by rw [ht2]; simp; omega
  have e2 : (pre (anyOf [35]) t).length = t0.length := by rw [anyOf_one, ht, P.e35, ht0]
  have HU2 : Hid (∀ w, _) := fun w => upTo_at t [35] t0.length htb (by decide) (by omega) (by decide) e2 w
  have hs4 := fun w => slice_to (w := w) t t0 t0.length (by rw [ht, ht0]; simp only [List.length_append]; omega) (by rw [ht, ht0]; have e : h ++ (po ++ (pa ++ (qu ++ fr))) = (h ++ (po ++ (pa ++ qu))) ++ fr := (by simp); rw [e, List.take_left])
  have hEnds : AddrMath.Ends (anyOf [58, 47, 63]) t1 := by
    rw [ht1]
    rcases P.po0 with e | ⟨c, x, e, hc⟩
    · rw [e, List.nil_append]
      rcases P.pa0 with e2 | ⟨c, x, e2, hc⟩
      · rw [e2, List.nil_append]
        rcases P.qu0 with e3 | ⟨c, x, e3, hc⟩
        · rw [e3]; exact AddrMath.Ends.nil _
        · rw [e3]; exact AddrMath.Ends.cons (by have : c = 63 := (by simpa [is] using hc); subst this; decide) _
      · rw [e2]; exact AddrMath.Ends.cons (by have : c = 47 := (by simpa [is] using hc); subst this; decide) _
    · rw [e]; exact AddrMath.Ends.cons (by have : c = 58 := (by simpa [is] using hc); subst this; decide) _
  have e3 : (pre (anyOf [58, 47, 63]) t0).length = h.length := by rw [ht0, ← ht1, AddrMath.pre_ends (No.any3 P.h58 P.h47 P.h63) hEnds]
  have HU3 : Hid (∀ w, _) := fun w => upTo_at t0 [58, 47, 63] h.length ht0b (by decide) (by omega) (by decide) e3 w
  have hs5 := fun w => slice_to (w := w) t0 h h.length (by rw [ht0]; simp) (by rw [ht0, List.take_left])
  have hs6 := fun w => slice_from (w := w) t0 t1 h.length (by rw [ht0]; simp) (by rw [ht0, List.drop_left, ht1])
  have HLo2 : Hid (∀ w, _) := fun w => refLower_any h w hhb (by omega)
  have hHb := AddrMath.lower_lt hhb
  have hHl := AddrMath.lower_len h
  have HHo : Hid (∀ w, _) := fun w => refHost_any (lower h) w hHb (by omega)
  -- path and query
  have e7 : (pre (anyOf [63]) t2).length = pa.length := by rw [anyOf_one, ht2, AddrMath.pre_ends P.pa63 P.qu0]
  have HU7 : Hid (∀ w, _) := fun w => upTo_at t2 [63] pa.length ht2b (by decide) (by omega) (by decide) e7 w
  have hs10 := fun w => slice_to (w := w) t2 pa pa.length (by rw [ht2]; simp) (by rw [ht2, List.take_left])
  have hs11 := fun w => slice_from (w := w) t2 qu pa.length (by rw [ht2]; simp) (by rw [ht2, List.drop_left])
  obtain ⟨b1, b2, z, Z, Q, D, hZl, hQl, hDl, hw1, hw2, hz, hd1, hd2, hX⟩ := way_pack pa qu P.pa0 P.pa63 P.qu0 hpab hqub (by omega) (by omega)
  have HW1 : Hid _ := hw1
  have HW2 : Hid _ := hw2
  have HDt : Hid _ := hd1
  have HDf : Hid _ := hd2
  have hC := comb_pack (sch := sch) (h := h) (po := po) hX
  clear hw1 hw2 hd1 hd2 hX
  have hpa0 : AddrMath.Ends (is 47) pa := P.pa0
  have hqu0 : AddrMath.Ends (is 63) qu := P.qu0
  -- the port
  have hpo0 : AddrMath.Ends (is 58) po := P.po0
  have e8 : (pre (anyOf [47, 63]) t1).length = po.length := by
    have hE2 : AddrMath.Ends (anyOf [47, 63]) (pa ++ qu) := by
      rcases P.pa0 with e2 | ⟨c, x, e2, hc⟩
      · rw [e2, List.nil_append]
        rcases P.qu0 with e3 | ⟨c, x, e3, hc⟩
        · rw [e3]; exact AddrMath.Ends.nil _
        · rw [e3]; exact AddrMath.Ends.cons (by have : c = 63 := (by simpa [is] using hc); subst this; decide) _
      · rw [e2]; exact AddrMath.Ends.cons (by have : c = 47 := (by simpa [is] using hc); subst this; decide) _
    rw [ht1, AddrMath.pre_ends (No.any2 P.po47 P.po63) hE2]
  have HU8 : Hid (∀ w, _) := fun w => upTo_at t1 [47, 63] po.length ht1b (by decide) (by omega) (by decide) e8 w
  have hs8 := fun w => slice_to (w := w) t1 po po.length (by rw [ht1]; simp) (by rw [ht1, List.take_left])
  have hs9 := fun w => slice_from (w := w) t1 t2 po.length (by rw [ht1]; simp) (by rw [ht1, List.drop_left, ht2])
  have hs7 : ∀ p, po = 58 :: p → ∀ w, (Instr.sliceAt 9 (.string (strN t1)) (some (.int .i64 1)) (some (.int .i64 ((po.length : Nat) : Int))) none).run Tryz.prog w = .ok (.string (strN p)) w := by
    intro p hp w
    have := run_slice_strN (w := w) t1 .i64 .i64 1 po.length (by rw [hp]; simp) (by rw [ht1]; simp)
    have e : (t1.drop 1).take (po.length - 1) = p := by rw [ht1, hp]; simp
    rw [e] at this
    exact this
  -- sums
  obtain ⟨F1, hF1⟩ : ∃ F, F = sch ++ colon := ⟨_, rfl⟩
  obtain ⟨F2, hF2⟩ : ∃ F, F = F1 ++ lower h := ⟨_, rfl⟩
  obtain ⟨F3, hF3⟩ : ∃ F, F = F2 ++ po := ⟨_, rfl⟩
  have hl1 : F1.length ≤ 8 := by rw [hF1]; simp [colon]; omega
  have hl2 : F2.length ≤ 10008 := by rw [hF2]; simp; omega
  have hl3 : F3.length ≤ 20008 := by rw [hF3]; simp; omega
  have hc1 : ∀ w, (Op.stringOp BinOp.add (strN sch) ⟨#[58, 47, 47]⟩).run Tryz.prog w = .ok (.string (strN F1)) w := by rw [hF1]; exact sum_strN sch colon (by simp [colon]; omega)
  have hc2 : ∀ w, (Op.stringOp BinOp.add (strN F1) (strN (lower h))).run Tryz.prog w = .ok (.string (strN F2)) w := by rw [hF2]; exact sum_strN F1 (lower h) (by omega)
  have hc3 : ∀ w, (Op.stringOp BinOp.add (strN F2) (strN po)).run Tryz.prog w = .ok (.string (strN F3)) w := by rw [hF3]; exact sum_strN F2 po (by omega)
  rw [← hF1, ← hF2] at hC
  have HC : Hid _ := hC
  have HF3 : Hid (F3 = F2 ++ po) := hF3
  clear hC
  have hpoe : Hid (po.isEmpty = decide (po = [])) := by show _ = _; cases po <;> rfl
  -- the three ways of a port
  have hport : (po = [] ∧ (t1 = [] ∨ ∃ x y, t1 = x :: y ∧ x ≠ 58 ∧ x < 256) ∧ t1 = t2) ∨ (∃ p, po = 58 :: p ∧ ∃ y, t1 = 58 :: y) := by
    rcases P.po0 with e | ⟨c, x, e, hc⟩
    · left
      refine ⟨e, ?_, by rw [ht1, ht2, e]; rfl⟩
      rw [ht1, e, List.nil_append]
      rcases P.pa0 with e2 | ⟨c, x, e2, hc⟩
      · rw [e2, List.nil_append]
        rcases P.qu0 with e3 | ⟨c, x, e3, hc⟩
        · left; exact e3
        · right; exact ⟨c, x, e3, by have : c = 63 := (by simpa [is] using hc); subst this; decide, hqub c (by rw [e3]; simp)⟩
      · right; exact ⟨c, x ++ qu, by rw [e2]; rfl, by have : c = 47 := (by simpa [is] using hc); subst this; decide, hpab c (by rw [e2]; simp)⟩
    · right
      have : c = 58 := by simpa [is] using hc
      subst this
      exact ⟨x, e, x ++ (pa ++ qu), by rw [ht1, e]; rfl⟩
  have hix0 : ∀ x y, t1 = x :: y → ∀ w, (Instr.index 9 (.string (strN t1)) (.int .i64 0)).run Tryz.prog w = .ok (.int .u8 (x : Int)) w := by
    intro x y e w
    have := index_strN t1 ht1b 0 (by rw [e]; simp) .i64 w
    rw [e] at this ⊢
    exact this
  have hqe := eq_lit [] [] rfl ht1b (by decide)
  generalize lower h = H at *
  generalize isHost H = hh at *
  obtain ⟨nu, hnu⟩ : ∃ n, n = u.length := ⟨_, rfl⟩
  obtain ⟨nh, hnh⟩ : ∃ n, n = h.length := ⟨_, rfl⟩
  obtain ⟨n0, hn0⟩ : ∃ n, n = t0.length := ⟨_, rfl⟩
  obtain ⟨np, hnp⟩ : ∃ n, n = po.length := ⟨_, rfl⟩
  obtain ⟨na, hna⟩ : ∃ n, n = pa.length := ⟨_, rfl⟩
  have hlen3 : nu + 3 ≤ s.length := by omega
  rw [← hnu] at HU1 hs1 hs2 hs3 hul
  rw [← hn0] at HU2 hs4 ht0l
  rw [← hnh] at HU3 hs5 hs6
  rw [← hna] at HU7 hs10 hs11
  rw [← hnp] at HU8 hs8 hs9 hs7
  have hsm : nu ≤ 10000 ∧ nh ≤ 10000 ∧ n0 ≤ 10000 ∧ np ≤ 10000 ∧ na ≤ 10000 := by omega
  have hpol : po.length ≤ 10000 := by omega
  clear e1 e2 e3 e7 e8 hEnds hn58 hs ht ht0 hF1 hF2 hF3 hsb hnu hnh hn0 hnp hna hlens hu P hpa0 hsch hqu0 hpo0 hS hHl ht1 ht2 hub hhb hpab hqub hfrb htb ht0b ht2b hHb
  go_enter Tryz.func30, Tryz.ntmps30
  go_wp2_with fail
  refine Calls.mono (HU1.out _) ?_
  rintro e w11 ⟨rfl, hb11⟩
  have HB11 : Hid _ := hb11
  clear hb11
  go_wp2_with fail
  refine Calls.mono (HLo1.out _) ?_
  rintro e w12 ⟨rfl, hb12⟩
  have HB12 : Hid _ := HB11.out.trans (hb12.mono HB11.out.size)
  clear hb12
  go_wp2_with fail
  refine Calls.mono (HU2.out _) ?_
  rintro e w13 ⟨rfl, hb13⟩
  have HB13 : Hid _ := HB12.out.trans (hb13.mono HB12.out.size)
  clear hb13
  go_wp2_with fail
  refine Calls.mono (HU3.out _) ?_
  rintro e w14 ⟨rfl, hb14⟩
  have HB14 : Hid _ := HB13.out.trans (hb14.mono HB13.out.size)
  clear hb14
  go_wp2_with fail
  refine Calls.mono (HLo2.out _) ?_
  rintro e w15 ⟨rfl, hb15⟩
  have HB15 : Hid _ := HB14.out.trans (hb15.mono HB14.out.size)
  clear hb15
  go_wp2_with fail
  refine Calls.mono (HLo2.out _) ?_
  rintro e w16 ⟨rfl, hb16⟩
  have HB16 : Hid _ := HB15.out.trans (hb16.mono HB15.out.size)
  clear hb16
  go_wp2_with fail
  refine Calls.mono (HHo.out _) ?_
  rintro e w17 ⟨rfl, hb17⟩
  have HB17 : Hid _ := HB16.out.trans (hb17.mono HB16.out.size)
  clear hb17
  cases hh with
  | false =>
    have HR : Hid (finish (combine sch h po pa qu) = ([], 25)) := by show _ = _; rw [HC.out]; rfl
    clear hport
    go_wp2
    go_ret2
    rw [HR.out]
    exact ⟨rfl, HB17.out⟩
  | true =>
    rcases hport with ⟨hpo, ht1c, ht12⟩ | ⟨pp, hpo, y1, ht1y⟩
    · have HCmb : Hid (combine sch h po pa qu = if b1 && b2 then some (F2 ++ (D ++ Q)) else none) := by
        show _ = _
        rw [HC.out, hpo]
        simp
      clear hpo HC hs7
      rw [← ht12] at HU7 hs10 hs11
      rcases ht1c with ht1e | ⟨x, y1, ht1e, hx58, hx256⟩
      · rw [decide_eq_true ht1e] at hqe
        clear ht1e ht12 hix0
        have HRn : Hid ((b1 && b2) = false → finish (combine sch h po pa qu) = ([], 25)) := finish_false HCmb.out
        obtain ⟨G1, hG1⟩ : ∃ G, G = F2 ++ D := ⟨_, rfl⟩
        obtain ⟨G2, hG2⟩ : ∃ G, G = G1 ++ Q := ⟨_, rfl⟩
        have hg1 : G1.length ≤ 60000 := by rw [hG1]; simp; omega
        have hg2 : G2.length ≤ 100000 := by rw [hG2]; simp; omega
        have hcd : ∀ w, (Op.stringOp BinOp.add (strN F2) (strN D)).run Tryz.prog w = .ok (.string (strN G1)) w := by rw [hG1]; exact sum_strN F2 D (by omega)
        have hcq : ∀ w, (Op.stringOp BinOp.add (strN G1) (strN Q)).run Tryz.prog w = .ok (.string (strN G2)) w := by rw [hG2]; exact sum_strN G1 Q (by omega)
        have hgz := strN_size G2
        have HRy : Hid (b1 = true → b2 = true → finish (combine sch h po pa qu) = if G2.length ≤ 200 then (G2, 0) else ([], 23)) := fun h1 h2 => finish_true HCmb.out h1 h2 (by rw [hG2, hG1, List.append_assoc])
        clear hG1 hG2 HCmb
        go_wp2_with fail
        refine Calls.mono (HU7.out _) ?_
        rintro e w18 ⟨rfl, hb18⟩
        have HB18 : Hid _ := HB17.out.trans (hb18.mono HB17.out.size)
        clear hb18
        go_wp2_with fail
        refine Calls.mono (HW1.out _) ?_
        rintro e w19 ⟨rfl, hb19⟩
        have HB19 : Hid _ := HB18.out.trans (hb19.mono HB18.out.size)
        clear hb19
        go_wp2_with fail
        refine Calls.mono (HW2.out _) ?_
        rintro e w20 ⟨rfl, hb20⟩
        have HB20 : Hid _ := HB19.out.trans (hb20.mono HB19.out.size)
        clear hb20
        cases b1 with
        | false =>
          go_wp2
          go_ret2
          rw [HRn.out rfl]
          exact ⟨rfl, HB20.out⟩
        | true =>
          cases b2 with
          | false =>
            go_wp2
            go_ret2
            rw [HRn.out rfl]
            exact ⟨rfl, HB20.out⟩
          | true =>
            have HR1 := HRy.out rfl rfl
            cases z with
            | true =>
              have HDx : Hid _ := HDt.out rfl rfl
              go_wp2_with fail
              refine Calls.mono (HDx.out _) ?_
              rintro e w21 ⟨rfl, hb21⟩
              have HB21 : Hid _ := HB20.out.trans (hb21.mono HB20.out.size)
              clear hb21
              by_cases h200 : 200 < G2.length
              · rw [if_neg (by omega)] at HR1
                have HR2 : Hid _ := HR1
                clear HR1
                go_wp2
                go_ret2
                rw [HR2.out]
                exact ⟨rfl, HB21.out⟩
              · rw [if_pos (by omega)] at HR1
                have HR2 : Hid _ := HR1
                clear HR1
                go_wp2
                go_ret2
                rw [HR2.out]
                exact ⟨rfl, HB21.out⟩
            | false =>
              have HDx : Hid _ := HDf.out rfl rfl
              go_wp2_with fail
              refine Calls.mono (HDx.out _) ?_
              rintro e w22 ⟨rfl, hb22⟩
              have HB22 : Hid _ := HB20.out.trans (hb22.mono HB20.out.size)
              clear hb22
              by_cases h200 : 200 < G2.length
              · rw [if_neg (by omega)] at HR1
                have HR2 : Hid _ := HR1
                clear HR1
                go_wp2
                go_ret2
                rw [HR2.out]
                exact ⟨rfl, HB22.out⟩
              · rw [if_pos (by omega)] at HR1
                have HR2 : Hid _ := HR1
                clear HR1
                go_wp2
                go_ret2
                rw [HR2.out]
                exact ⟨rfl, HB22.out⟩
      · rw [decide_eq_false (by rw [ht1e]; simp)] at hqe
        have hix := hix0 x y1 ht1e
        have hxn : ((x : Int) == 58) = false := by simp; omega
        clear ht1e ht12 hix0 hx58
        have HRn : Hid ((b1 && b2) = false → finish (combine sch h po pa qu) = ([], 25)) := finish_false HCmb.out
        obtain ⟨G1, hG1⟩ : ∃ G, G = F2 ++ D := ⟨_, rfl⟩
        obtain ⟨G2, hG2⟩ : ∃ G, G = G1 ++ Q := ⟨_, rfl⟩
        have hg1 : G1.length ≤ 60000 := by rw [hG1]; simp; omega
        have hg2 : G2.length ≤ 100000 := by rw [hG2]; simp; omega
        have hcd : ∀ w, (Op.stringOp BinOp.add (strN F2) (strN D)).run Tryz.prog w = .ok (.string (strN G1)) w := by rw [hG1]; exact sum_strN F2 D (by omega)
        have hcq : ∀ w, (Op.stringOp BinOp.add (strN G1) (strN Q)).run Tryz.prog w = .ok (.string (strN G2)) w := by rw [hG2]; exact sum_strN G1 Q (by omega)
        have hgz := strN_size G2
        have HRy : Hid (b1 = true → b2 = true → finish (combine sch h po pa qu) = if G2.length ≤ 200 then (G2, 0) else ([], 23)) := fun h1 h2 => finish_true HCmb.out h1 h2 (by rw [hG2, hG1, List.append_assoc])
        clear hG1 hG2 HCmb
        go_wp2_with fail
        refine Calls.mono (HU7.out _) ?_
        rintro e w23 ⟨rfl, hb23⟩
        have HB23 : Hid _ := HB17.out.trans (hb23.mono HB17.out.size)
        clear hb23
        go_wp2_with fail
        refine Calls.mono (HW1.out _) ?_
        rintro e w24 ⟨rfl, hb24⟩
        have HB24 : Hid _ := HB23.out.trans (hb24.mono HB23.out.size)
        clear hb24
        go_wp2_with fail
        refine Calls.mono (HW2.out _) ?_
        rintro e w25 ⟨rfl, hb25⟩
        have HB25 : Hid _ := HB24.out.trans (hb25.mono HB24.out.size)
        clear hb25
        cases b1 with
        | false =>
          go_wp2
          go_ret2
          rw [HRn.out rfl]
          exact ⟨rfl, HB25.out⟩
        | true =>
          cases b2 with
          | false =>
            go_wp2
            go_ret2
            rw [HRn.out rfl]
            exact ⟨rfl, HB25.out⟩
          | true =>
            have HR1 := HRy.out rfl rfl
            cases z with
            | true =>
              have HDx : Hid _ := HDt.out rfl rfl
              go_wp2_with fail
              refine Calls.mono (HDx.out _) ?_
              rintro e w26 ⟨rfl, hb26⟩
              have HB26 : Hid _ := HB25.out.trans (hb26.mono HB25.out.size)
              clear hb26
              by_cases h200 : 200 < G2.length
              · rw [if_neg (by omega)] at HR1
                have HR2 : Hid _ := HR1
                clear HR1
                go_wp2
                go_ret2
                rw [HR2.out]
                exact ⟨rfl, HB26.out⟩
              · rw [if_pos (by omega)] at HR1
                have HR2 : Hid _ := HR1
                clear HR1
                go_wp2
                go_ret2
                rw [HR2.out]
                exact ⟨rfl, HB26.out⟩
            | false =>
              have HDx : Hid _ := HDf.out rfl rfl
              go_wp2_with fail
              refine Calls.mono (HDx.out _) ?_
              rintro e w27 ⟨rfl, hb27⟩
              have HB27 : Hid _ := HB25.out.trans (hb27.mono HB25.out.size)
              clear hb27
              by_cases h200 : 200 < G2.length
              · rw [if_neg (by omega)] at HR1
                have HR2 : Hid _ := HR1
                clear HR1
                go_wp2
                go_ret2
                rw [HR2.out]
                exact ⟨rfl, HB27.out⟩
              · rw [if_pos (by omega)] at HR1
                have HR2 : Hid _ := HR1
                clear HR1
                go_wp2
                go_ret2
                rw [HR2.out]
                exact ⟨rfl, HB27.out⟩
    · have hs7' := hs7 pp hpo
      have hppb : ∀ c ∈ pp, c < 256 := fun c hc => hpob c (by rw [hpo]; simp [hc])
      have hppl : pp.length ≤ 10000 := by have := congrArg List.length hpo; simp at this; omega
      rw [decide_eq_false (by rw [ht1y]; simp)] at hqe
      have hix := hix0 58 y1 ht1y
      have hpl := fun w => refPort_any pp w hppb (by omega)
      have hun : isPort pp = true → (pp = usual sch ↔ value pp = usualN sch) := usual_num
      rw [HUS.out] at hun
      have HCmb0 : Hid (combine sch h po pa qu = if isPort pp then (if b1 && b2 then some (F2 ++ (if pp = usual sch then [] else po) ++ (D ++ Q)) else none) else none) := by
        show _ = _
        rw [HC.out, hpo]
        simp only [List.isEmpty_cons, Bool.false_or, Bool.true_and, List.tail_cons, reduceCtorEq, false_or]
      clear hs7 hix0 ht1y HC hpo
      go_wp2_with fail
      refine Calls.mono (HU8.out _) ?_
      rintro e w28 ⟨rfl, hb28⟩
      have HB28 : Hid _ := HB17.out.trans (hb28.mono HB17.out.size)
      clear hb28
      go_wp2_with fail
      refine Calls.mono (hpl _) ?_
      rintro e wp ⟨⟨v, rfl, hv⟩, hwp⟩
      subst wp
      clear hpl
      cases hprt : isPort pp with
      | false =>
        rw [hprt] at HCmb0
        have HR : Hid (finish (combine sch h po pa qu) = ([], 25)) := by show _ = _; rw [HCmb0.out]; rfl
        clear hv hun
        go_wp2
        go_ret2
        rw [HR.out]
        exact ⟨rfl, HB28.out⟩
      | true =>
        rw [hprt] at HCmb0
        have hun2 := hun hprt
        rw [← hv hprt] at hun2
        clear hun hv
        by_cases hvu : v = 80
        · have hve : ((v : Int) == 80) = true := by simp; omega
          have hvn : ((v : Int) != 80) = false := by simp; omega
          have HCmb : Hid (combine sch h po pa qu = if b1 && b2 then some (F2 ++ (D ++ Q)) else none) := by
            show _ = _
            rw [HCmb0.out, if_pos (hun2.2 hvu)]
            simp
          clear hvu hun2 HCmb0
          have HRn : Hid ((b1 && b2) = false → finish (combine sch h po pa qu) = ([], 25)) := finish_false HCmb.out
          obtain ⟨G1, hG1⟩ : ∃ G, G = F2 ++ D := ⟨_, rfl⟩
          obtain ⟨G2, hG2⟩ : ∃ G, G = G1 ++ Q := ⟨_, rfl⟩
          have hg1 : G1.length ≤ 60000 := by rw [hG1]; simp; omega
          have hg2 : G2.length ≤ 100000 := by rw [hG2]; simp; omega
          have hcd : ∀ w, (Op.stringOp BinOp.add (strN F2) (strN D)).run Tryz.prog w = .ok (.string (strN G1)) w := by rw [hG1]; exact sum_strN F2 D (by omega)
          have hcq : ∀ w, (Op.stringOp BinOp.add (strN G1) (strN Q)).run Tryz.prog w = .ok (.string (strN G2)) w := by rw [hG2]; exact sum_strN G1 Q (by omega)
          have hgz := strN_size G2
          have HRy : Hid (b1 = true → b2 = true → finish (combine sch h po pa qu) = if G2.length ≤ 200 then (G2, 0) else ([], 23)) := fun h1 h2 => finish_true HCmb.out h1 h2 (by rw [hG2, hG1, List.append_assoc])
          clear hG1 hG2 HCmb
          go_wp2_with fail
          refine Calls.mono (HU7.out _) ?_
          rintro e w29 ⟨rfl, hb29⟩
          have HB29 : Hid _ := HB28.out.trans (hb29.mono HB28.out.size)
          clear hb29
          go_wp2_with fail
          refine Calls.mono (HW1.out _) ?_
          rintro e w30 ⟨rfl, hb30⟩
          have HB30 : Hid _ := HB29.out.trans (hb30.mono HB29.out.size)
          clear hb30
          go_wp2_with fail
          refine Calls.mono (HW2.out _) ?_
          rintro e w31 ⟨rfl, hb31⟩
          have HB31 : Hid _ := HB30.out.trans (hb31.mono HB30.out.size)
          clear hb31
          cases b1 with
          | false =>
            go_wp2
            go_ret2
            rw [HRn.out rfl]
            exact ⟨rfl, HB31.out⟩
          | true =>
            cases b2 with
            | false =>
              go_wp2
              go_ret2
              rw [HRn.out rfl]
              exact ⟨rfl, HB31.out⟩
            | true =>
              have HR1 := HRy.out rfl rfl
              cases z with
              | true =>
                have HDx : Hid _ := HDt.out rfl rfl
                go_wp2_with fail
                refine Calls.mono (HDx.out _) ?_
                rintro e w32 ⟨rfl, hb32⟩
                have HB32 : Hid _ := HB31.out.trans (hb32.mono HB31.out.size)
                clear hb32
                by_cases h200 : 200 < G2.length
                · rw [if_neg (by omega)] at HR1
                  have HR2 : Hid _ := HR1
                  clear HR1
                  go_wp2
                  go_ret2
                  rw [HR2.out]
                  exact ⟨rfl, HB32.out⟩
                · rw [if_pos (by omega)] at HR1
                  have HR2 : Hid _ := HR1
                  clear HR1
                  go_wp2
                  go_ret2
                  rw [HR2.out]
                  exact ⟨rfl, HB32.out⟩
              | false =>
                have HDx : Hid _ := HDf.out rfl rfl
                go_wp2_with fail
                refine Calls.mono (HDx.out _) ?_
                rintro e w33 ⟨rfl, hb33⟩
                have HB33 : Hid _ := HB31.out.trans (hb33.mono HB31.out.size)
                clear hb33
                by_cases h200 : 200 < G2.length
                · rw [if_neg (by omega)] at HR1
                  have HR2 : Hid _ := HR1
                  clear HR1
                  go_wp2
                  go_ret2
                  rw [HR2.out]
                  exact ⟨rfl, HB33.out⟩
                · rw [if_pos (by omega)] at HR1
                  have HR2 : Hid _ := HR1
                  clear HR1
                  go_wp2
                  go_ret2
                  rw [HR2.out]
                  exact ⟨rfl, HB33.out⟩
        · have hve : ((v : Int) == 80) = false := by simp; omega
          have hvn : ((v : Int) != 80) = true := by simp; omega
          have HCmb : Hid (combine sch h po pa qu = if b1 && b2 then some (F3 ++ (D ++ Q)) else none) := by
            show _ = _
            rw [HCmb0.out, if_neg (fun e => hvu (hun2.1 e)), HF3.out]
            simp
          clear hvu hun2 HCmb0
          have HRn : Hid ((b1 && b2) = false → finish (combine sch h po pa qu) = ([], 25)) := finish_false HCmb.out
          obtain ⟨G1, hG1⟩ : ∃ G, G = F3 ++ D := ⟨_, rfl⟩
          obtain ⟨G2, hG2⟩ : ∃ G, G = G1 ++ Q := ⟨_, rfl⟩
          have hg1 : G1.length ≤ 60000 := by rw [hG1]; simp; omega
          have hg2 : G2.length ≤ 100000 := by rw [hG2]; simp; omega
          have hcd : ∀ w, (Op.stringOp BinOp.add (strN F3) (strN D)).run Tryz.prog w = .ok (.string (strN G1)) w := by rw [hG1]; exact sum_strN F3 D (by omega)
          have hcq : ∀ w, (Op.stringOp BinOp.add (strN G1) (strN Q)).run Tryz.prog w = .ok (.string (strN G2)) w := by rw [hG2]; exact sum_strN G1 Q (by omega)
          have hgz := strN_size G2
          have HRy : Hid (b1 = true → b2 = true → finish (combine sch h po pa qu) = if G2.length ≤ 200 then (G2, 0) else ([], 23)) := fun h1 h2 => finish_true HCmb.out h1 h2 (by rw [hG2, hG1, List.append_assoc])
          clear hG1 hG2 HCmb
          go_wp2_with fail
          refine Calls.mono (HU7.out _) ?_
          rintro e w34 ⟨rfl, hb34⟩
          have HB34 : Hid _ := HB28.out.trans (hb34.mono HB28.out.size)
          clear hb34
          go_wp2_with fail
          refine Calls.mono (HW1.out _) ?_
          rintro e w35 ⟨rfl, hb35⟩
          have HB35 : Hid _ := HB34.out.trans (hb35.mono HB34.out.size)
          clear hb35
          go_wp2_with fail
          refine Calls.mono (HW2.out _) ?_
          rintro e w36 ⟨rfl, hb36⟩
          have HB36 : Hid _ := HB35.out.trans (hb36.mono HB35.out.size)
          clear hb36
          cases b1 with
          | false =>
            go_wp2
            go_ret2
            rw [HRn.out rfl]
            exact ⟨rfl, HB36.out⟩
          | true =>
            cases b2 with
            | false =>
              go_wp2
              go_ret2
              rw [HRn.out rfl]
              exact ⟨rfl, HB36.out⟩
            | true =>
              have HR1 := HRy.out rfl rfl
              cases z with
              | true =>
                have HDx : Hid _ := HDt.out rfl rfl
                go_wp2_with fail
                refine Calls.mono (HDx.out _) ?_
                rintro e w37 ⟨rfl, hb37⟩
                have HB37 : Hid _ := HB36.out.trans (hb37.mono HB36.out.size)
                clear hb37
                by_cases h200 : 200 < G2.length
                · rw [if_neg (by omega)] at HR1
                  have HR2 : Hid _ := HR1
                  clear HR1
                  go_wp2
                  go_ret2
                  rw [HR2.out]
                  exact ⟨rfl, HB37.out⟩
                · rw [if_pos (by omega)] at HR1
                  have HR2 : Hid _ := HR1
                  clear HR1
                  go_wp2
                  go_ret2
                  rw [HR2.out]
                  exact ⟨rfl, HB37.out⟩
              | false =>
                have HDx : Hid _ := HDf.out rfl rfl
                go_wp2_with fail
                refine Calls.mono (HDx.out _) ?_
                rintro e w38 ⟨rfl, hb38⟩
                have HB38 : Hid _ := HB36.out.trans (hb38.mono HB36.out.size)
                clear hb38
                by_cases h200 : 200 < G2.length
                · rw [if_neg (by omega)] at HR1
                  have HR2 : Hid _ := HR1
                  clear HR1
                  go_wp2
                  go_ret2
                  rw [HR2.out]
                  exact ⟨rfl, HB38.out⟩
                · rw [if_pos (by omega)] at HR1
                  have HR2 : Hid _ := HR1
                  clear HR1
                  go_wp2
                  go_ret2
                  rw [HR2.out]
                  exact ⟨rfl, HB38.out⟩
end Go.Proofs.YteockpllnhjooaaGreatDoor
