/-
  Walks of addr.isPort, siteForm, hexDigit, hexByte.
-/
import Derived.Test.YteockpllnhjooaaGreatDoorFnAddrB
import Derived.Test.YteockpllnhjooaaGreatDoorFnNextK
namespace Go.Proofs.YteockpllnhjooaaGreatDoor
open Go.RowKit NumMath
open AddrMath (pre post is No Ends cut3 colon splitD lower small labC isLab isHost isPort digit value hexV hexAt)
set_option maxRecDepth 100000
set_option linter.unusedVariables false
set_option linter.unusedSimpArgs false

set_option maxRecDepth 100000 in
set_option maxHeartbeats 4000000 in
theorem isPort_any (l : List Nat) (w : World) (hb : ∀ c ∈ l, c < 256) (hm : l.length ≤ 1000000000) :
    Calls Tryz.prog 74 #[.string (strN l)] w fun e w' => e = .returned (.bool (isPort l)) ∧ Below w.heap.size w w' := by
  have HP : Hid _ := AddrMath.isPort_parts l
  have hse := eq_lit [] [] rfl hb (by decide)
  have hsz := strN_size l
  have HH1 : Hid (∀ w, _) := fun w => hasPrefix_any l [48] hb (by decide) w
  by_cases h0 : l = []
  · rw [decide_eq_true h0] at hse
    have HF : Hid (isPort l = false) := by show isPort l = false; rw [h0]; decide
    clear h0
    go_enter Tryz.func74, Tryz.ntmps74
    go_wp2
    go_ret
    exact ⟨ret_bool HF.out.symm, Below.refl _ _⟩
  · rw [decide_eq_false h0] at hse
    have hpos : 0 < l.length := List.length_pos_iff.2 h0
    by_cases h5 : 5 < l.length
    · have HF : Hid (isPort l = false) := by show _ = _; rw [HP.out, decide_eq_false (show ¬ l.length ≤ 5 by omega)]; simp
      clear h0
      go_enter Tryz.func74, Tryz.ntmps74
      go_wp2
      go_ret
      exact ⟨ret_bool HF.out.symm, Below.refl _ _⟩
    · rw [decide_eq_true (show 1 ≤ l.length by omega), decide_eq_true (show l.length ≤ 5 by omega)] at HP
      simp only [Bool.true_and] at HP
      cases hp1 : [48].isPrefixOf l with
      | true =>
        rw [hp1] at HH1 HP
        have HF : Hid (isPort l = false) := by show _ = _; rw [HP.out]; rfl
        clear h0 hp1
        go_enter Tryz.func74, Tryz.ntmps74
        go_wp2_with (go_at_call 80; refine Calls.mono (HH1.out _) ?_; rintro e w2 ⟨rfl, h2w⟩; subst w2)
        go_ret
        exact ⟨ret_bool HF.out.symm, Below.refl _ _⟩
      | false =>
        rw [hp1] at HH1 HP
        have HF : Hid (isPort l = (l.all digit && decide (value l ≤ 65535))) := by show _ = _; rw [HP.out]; rfl
        have HI0 : Hid (Iter (w.alloc (.stringIter (strN l) 0)) w.heap.size l 0) := Iter.new _ l _ rfl
        have HB0 : Hid (Below w.heap.size w (w.alloc (.stringIter (strN l) 0))) := (Below.refl _ w).alloc (Nat.le_refl _) _
        clear h0 hp1 HP
        go_enter Tryz.func74, Tryz.ntmps74
        go_wp2_with (go_at_call 80; refine Calls.mono (HH1.out _) ?_; rintro e w2 ⟨rfl, h2w⟩; subst w2)
        go_loopw [3] (fun v wr => ∃ k q : Nat, Iter wr w.heap.size l k ∧ Below w.heap.size w wr ∧ (l.take k).all digit = true ∧ v = .int .i64 (q : Int) ∧ q = value (l.take k) ∧ q < 10 ^ k ∧ k ≤ l.length) (fun _ wr => l.length - wr.iterPos w.heap.size)
        case atStart => exact ⟨0, 0, HI0.out, HB0.out, by simp, rfl, rfl, by decide, by omega⟩
        case round =>
          clear HI0 HB0 HH1
          obtain ⟨k, q, hit, hbw, hall, rfl, hq, hq10, hkl⟩ := hrel
          have hlt := hit.lt
          have HIT : Hid _ := hit
          have HBW : Hid _ := hbw
          have HA : Hid _ := hall
          have HQ : Hid _ := hq
          have HQT : Hid _ := hq10
          have hq5 : q < 100000 := by
            have : 10 ^ k ≤ 10 ^ 5 := Nat.pow_le_pow_right (by decide) (by omega)
            have e : (10 : Nat) ^ 5 = 100000 := by decide
            omega
          clear hq hq10
          by_cases hp : k < l.length
          · obtain ⟨r, n, hnx, hv, hr, hn, hpn, hru, hdec⟩ := next_some hit hb hp
            obtain ⟨c, hc⟩ : ∃ c, l[k]? = some c := ⟨l[k], List.getElem?_eq_getElem hp⟩
            have HC : Hid _ := hc
            have HI2 : Hid _ := hit.set (k + n)
            have HB2 : Hid _ := Lib.below_iterAt hbw (k := w.heap.size) (by omega) (strN l) (k + n)
            have HM : Hid (l.length - (k + n) < l.length - wr.iterPos w.heap.size) := by
              show _ < _; rw [Iter.pos HIT.out]; omega
            cases hdig : digit c with
            | true =>
              have hdc := (AddrMath.digit_iff c).1 hdig
              have hd2 := AddrMath.dec_ascii hc (by omega)
              rw [hd2] at hdec
              obtain ⟨rfl, rfl⟩ := Prod.mk.inj hdec
              have HAn : Hid _ := AddrMath.all_take_succ hc hall hdig
              have HV : Hid _ := AddrMath.value_take hc
              clear hit hbw hru hdec hd2 hv hall hc hn
              generalize wr.iterAt w.heap.size (strN l) (k + 1) = w1 at *
              go_wp2_with (go_at_call 97; refine (isDigit_any c _ hr).mono ?_; rintro e w2 ⟨rfl, h2w⟩; subst w2)
              go_roundw
              case rel =>
                refine ⟨k + 1, q * 10 + (c - 48), HI2.out, HB2.out, HAn.out, ?_, ?_, ?_, by omega⟩
                · congr 1; omega
                · rw [HV.out, ← HQ.out]
                · have := HQT.out
                  rw [Nat.pow_succ]; omega
              case measure => rw [Iter.pos HI2.out]; exact HM.out
            | false =>
              have hlr := digit_dec hc hdig
              rw [hdec] at hlr
              have HFF : Hid (isPort l = false) := by show _ = _; rw [HF.out, AddrMath.all_false hc hdig]; rfl
              clear hit hbw hru hdec hv hall hc hn hdig
              generalize wr.iterAt w.heap.size (strN l) (k + n) = w1 at *
              go_wp2_with (go_at_call 97; refine (isDigit_any r _ hr).mono ?_; rintro e w2 ⟨rfl, h2w⟩; subst w2)
              go_ret
              exact ⟨ret_bool HFF.out.symm, HB2.out⟩
          · have hnx := next_none (l := l) hit hp
            have HFT : Hid (isPort l = decide (q ≤ 65535)) := by
              show _ = _
              have h1 : l.take k = l := List.take_of_length_le (by omega)
              rw [h1] at hall
              rw [HF.out, hall, HQ.out, h1]; rfl
            clear hit hbw hall
            go_wp2
            go_ret
            rw [HFT.out]
            refine ⟨ret_bool ?_, HBW.out⟩
            rw [Bool.eq_iff_iff]; simp; omega

/-- What siteForm answers. -/
def siteV (sch site : List Nat) : Value := if AddrMath.siteOk site then .tuple #[.string (strN (AddrMath.siteF sch site)), .bool true] else .tuple #[.string (strN []), .bool false]
theorem siteV_yes {sch site : List Nat} (h : AddrMath.siteOk site = true) : siteV sch site = .tuple #[.string (strN (AddrMath.siteF sch site)), .bool true] := by unfold siteV; rw [if_pos h]
theorem siteV_no {sch site : List Nat} (h : AddrMath.siteOk site = false) : siteV sch site = .tuple #[.string (strN []), .bool false] := by unfold siteV; rw [if_neg (by rw [h]; decide)]
set_option maxRecDepth 100000 in
set_option maxHeartbeats 4000000 in
theorem siteForm_any (site sch : List Nat) (w : World) (ht : MaxLen w) (hb : ∀ c ∈ site, c < 256) (hs : ∀ c ∈ sch, c < 256) (hm : site.length ≤ 10000) :
    Calls Tryz.prog 47 #[.string (strN site), .string (strN sch)] w fun e w' => e = .returned (siteV sch site) ∧ Below w.heap.size w w' := by
  have HT : Hid _ := ht
  have HC : Hid _ := cut1_any 58 (by decide) site hb w ht (by omega)
  have hhb : ∀ c ∈ pre (is 58) site, c < 256 := fun c hc => hb c (AddrMath.pre_mem hc)
  have hhl : (pre (is 58) site).length ≤ 10000 := by have := AddrMath.pre_len (is 58) site; omega
  have hpb : ∀ c ∈ (post (is 58) site).tail, c < 256 := fun c hc => hb c (AddrMath.post_mem (List.mem_of_mem_tail hc))
  have hpl : (post (is 58) site).length ≤ 10000 := by have := AddrMath.post_len (is 58) site; omega
  have hpc := AddrMath.post_cases (is 58) site
  have HO : Hid (AddrMath.siteOk site = (isHost (lower (pre (is 58) site)) && ((post (is 58) site).isEmpty || isPort (post (is 58) site).tail))) := rfl
  have HS : Hid (AddrMath.siteF sch site = lower (pre (is 58) site) ++ (if post (is 58) site = [] ∨ (post (is 58) site).tail = AddrMath.usual sch then [] else post (is 58) site)) := rfl
  generalize pre (is 58) site = h at *
  generalize post (is 58) site = po at *
  have hLb := AddrMath.lower_lt hhb
  have hLl := AddrMath.lower_len h
  have HSm : Hid (∀ w, _) := fun w => small_any h w hhb (by omega)
  generalize lower h = H at *
  have HHo : Hid (∀ w, MaxLen w → _) := fun w ht => isHost_any H w ht hLb (by omega)
  cases hho : isHost H with
  | false =>
    rw [hho] at HHo HO
    have HF : Hid (AddrMath.siteOk site = false) := by show _ = _; rw [HO.out]; rfl
    clear hpc ht hho
    go_enter Tryz.func47, Tryz.ntmps47
    go_wp2_with fail
    refine Calls.mono HC.out ?_
    rintro e w1 ⟨rfl, hb1⟩
    have HB1 : Hid _ := hb1
    clear hb1
    go_wp2_with fail
    refine Calls.mono (HSm.out _) ?_
    rintro e w2 ⟨rfl, hb2⟩
    have HB2 : Hid _ := HB1.out.trans (hb2.mono HB1.out.size)
    clear hb2
    go_wp2_with fail
    refine Calls.mono (HHo.out _ (MaxLen.later HT.out HB2.out)) ?_
    rintro e w3 ⟨rfl, hb3⟩
    have HB3 : Hid _ := HB2.out.trans (hb3.mono HB2.out.size)
    clear hb3
    go_wp2
    go_ret2
    rw [siteV_no HF.out]
    exact ⟨rfl, HB3.out⟩
  | true =>
    rw [hho] at HHo HO
    rcases hpc with hpo | ⟨c, p, hpo, hc⟩
    · have HF : Hid (AddrMath.siteOk site = true) := by show _ = _; rw [HO.out, hpo]; rfl
      have HS2 : Hid (AddrMath.siteF sch site = H) := by show _ = _; rw [HS.out, if_pos (.inl hpo), List.append_nil]
      rw [hpo] at HC
      have HC2 : Hid (Calls Tryz.prog 45 #[.string (strN site), .string (strN [58])] w fun e w' => e = .returned (.tuple #[.string (strN h), .string (strN []), .bool false]) ∧ Below w.heap.size w w') := HC.out
      clear hpo ht hho HC HS HO hpb hpl
      go_enter Tryz.func47, Tryz.ntmps47
      go_wp2_with fail
      refine Calls.mono HC2.out ?_
      rintro e w1 ⟨rfl, hb1⟩
      have HB1 : Hid _ := hb1
      clear hb1
      go_wp2_with fail
      refine Calls.mono (HSm.out _) ?_
      rintro e w2 ⟨rfl, hb2⟩
      have HB2 : Hid _ := HB1.out.trans (hb2.mono HB1.out.size)
      clear hb2
      go_wp2_with fail
      refine Calls.mono (HHo.out _ (MaxLen.later HT.out HB2.out)) ?_
      rintro e w3 ⟨rfl, hb3⟩
      have HB3 : Hid _ := HB2.out.trans (hb3.mono HB2.out.size)
      clear hb3
      go_wp2
      go_ret2
      rw [siteV_yes HF.out, HS2.out]
      exact ⟨rfl, HB3.out⟩
    · have hc58 : c = 58 := by simpa [is] using hc
      subst hc58
      subst hpo
      have HC2 : Hid (Calls Tryz.prog 45 #[.string (strN site), .string (strN [58])] w fun e w' => e = .returned (.tuple #[.string (strN h), .string (strN p), .bool true]) ∧ Below w.heap.size w w') := HC.out
      have hpb' : ∀ c ∈ p, c < 256 := hpb
      simp only [List.length_cons] at hpl
      have HPo : Hid (∀ w, _) := fun w => isPort_any p w hpb' (by omega)
      have HO2 : Hid (AddrMath.siteOk site = isPort p) := by show _ = _; rw [HO.out]; rfl
      cases hport : isPort p with
      | false =>
        rw [hport] at HPo HO2
        clear ht hho HC HS HO hpb hpl hc
        go_enter Tryz.func47, Tryz.ntmps47
        go_wp2_with fail
        refine Calls.mono HC2.out ?_
        rintro e w1 ⟨rfl, hb1⟩
        have HB1 : Hid _ := hb1
        clear hb1
        go_wp2_with fail
        refine Calls.mono (HSm.out _) ?_
        rintro e w2 ⟨rfl, hb2⟩
        have HB2 : Hid _ := HB1.out.trans (hb2.mono HB1.out.size)
        clear hb2
        go_wp2_with fail
        refine Calls.mono (HHo.out _ (MaxLen.later HT.out HB2.out)) ?_
        rintro e w3 ⟨rfl, hb3⟩
        have HB3 : Hid _ := HB2.out.trans (hb3.mono HB2.out.size)
        clear hb3
        go_wp2_with fail
        refine Calls.mono (HPo.out _) ?_
        rintro e w4 ⟨rfl, hb4⟩
        have HB4 : Hid _ := HB3.out.trans (hb4.mono HB3.out.size)
        clear hb4
        go_wp2
        go_ret2
        rw [siteV_no HO2.out]
        exact ⟨rfl, HB4.out⟩
      | true =>
        rw [hport] at HPo HO2
        have HU : Hid (∀ w, _) := fun w => usualPort_any sch hs w
        have heq := strN_eq hpb' (AddrMath.usual_lt sch)
        have HS3 : Hid (AddrMath.siteF sch site = H ++ (if p = AddrMath.usual sch then [] else 58 :: p)) := by
          show _ = _
          rw [HS.out]
          by_cases e : p = AddrMath.usual sch
          · rw [if_pos (.inr e), if_pos e]
          · rw [if_neg (by rintro (h | h); cases h; exact e h), if_neg e]
        generalize AddrMath.usual sch = U at *
        have hcat1 : ∀ w, (Op.stringOp BinOp.add (strN H) ⟨#[58]⟩).run Tryz.prog w = .ok (.string (strN (H ++ [58]))) w := sum_strN H [58] (by simp; omega)
        have hcat2 := sum_strN (H ++ [58]) p (by simp; omega)
        by_cases hpu : p = U
        · rw [decide_eq_true hpu] at heq
          have HS4 : Hid (AddrMath.siteF sch site = H) := by show _ = _; rw [HS3.out, if_pos hpu, List.append_nil]
          clear ht hho HC HS HO hpb hpl hc hpu HS3
          go_enter Tryz.func47, Tryz.ntmps47
          go_wp2_with fail
          refine Calls.mono HC2.out ?_
          rintro e w1 ⟨rfl, hb1⟩
          have HB1 : Hid _ := hb1
          clear hb1
          go_wp2_with fail
          refine Calls.mono (HSm.out _) ?_
          rintro e w2 ⟨rfl, hb2⟩
          have HB2 : Hid _ := HB1.out.trans (hb2.mono HB1.out.size)
          clear hb2
          go_wp2_with fail
          refine Calls.mono (HHo.out _ (MaxLen.later HT.out HB2.out)) ?_
          rintro e w3 ⟨rfl, hb3⟩
          have HB3 : Hid _ := HB2.out.trans (hb3.mono HB2.out.size)
          clear hb3
          go_wp2_with fail
          refine Calls.mono (HPo.out _) ?_
          rintro e w4 ⟨rfl, hb4⟩
          have HB4 : Hid _ := HB3.out.trans (hb4.mono HB3.out.size)
          clear hb4
          go_wp2_with fail
          refine Calls.mono (HU.out _) ?_
          rintro e w5 ⟨rfl, h5w⟩
          subst w5
          go_wp2
          go_ret2
          rw [siteV_yes HO2.out, HS4.out]
          exact ⟨rfl, HB4.out⟩
        · rw [decide_eq_false hpu] at heq
          have HS4 : Hid (AddrMath.siteF sch site = H ++ 58 :: p) := by show _ = _; rw [HS3.out, if_neg hpu]
          clear ht hho HC HS HO hpb hpl hc hpu HS3
          go_enter Tryz.func47, Tryz.ntmps47
          go_wp2_with fail
          refine Calls.mono HC2.out ?_
          rintro e w1 ⟨rfl, hb1⟩
          have HB1 : Hid _ := hb1
          clear hb1
          go_wp2_with fail
          refine Calls.mono (HSm.out _) ?_
          rintro e w2 ⟨rfl, hb2⟩
          have HB2 : Hid _ := HB1.out.trans (hb2.mono HB1.out.size)
          clear hb2
          go_wp2_with fail
          refine Calls.mono (HHo.out _ (MaxLen.later HT.out HB2.out)) ?_
          rintro e w3 ⟨rfl, hb3⟩
          have HB3 : Hid _ := HB2.out.trans (hb3.mono HB2.out.size)
          clear hb3
          go_wp2_with fail
          refine Calls.mono (HPo.out _) ?_
          rintro e w4 ⟨rfl, hb4⟩
          have HB4 : Hid _ := HB3.out.trans (hb4.mono HB3.out.size)
          clear hb4
          go_wp2_with fail
          refine Calls.mono (HU.out _) ?_
          rintro e w5 ⟨rfl, h5w⟩
          subst w5
          go_wp2
          go_ret2
          rw [siteV_yes HO2.out, HS4.out]
          exact ⟨rfl, HB4.out⟩
theorem hexDigit_any (c : Nat) (w : World) (h : c < 256) :
    Calls Tryz.prog 98 #[.int .u8 (c : Int)] w fun e w' => e = .returned (.tuple #[.int .u8 (((hexV c).getD 0 : Nat) : Int), .bool (hexV c).isSome]) ∧ w' = w := by
  have HV : Hid (hexV c = if 48 ≤ c ∧ c ≤ 57 then some (c - 48) else if 97 ≤ c ∧ c ≤ 102 then some (c - 87) else if 65 ≤ c ∧ c ≤ 70 then some (c - 55) else none) := rfl
  go_enter Tryz.func98, Tryz.ntmps98
  go_wp2
  all_goals go_ret2
  all_goals refine ⟨?_, rfl⟩
  all_goals rw [HV.out]
  all_goals simp at *
  all_goals first
    | (rw [if_pos (by omega)]; refine ⟨?_, rfl⟩; simp; omega)
    | (rw [if_neg (by omega), if_pos (by omega)]; refine ⟨?_, rfl⟩; simp; omega)
    | (rw [if_neg (by omega), if_neg (by omega), if_pos (by omega)]; refine ⟨?_, rfl⟩; simp; omega)
    | (rw [if_neg (by omega), if_neg (by omega), if_neg (by omega)]; exact ⟨rfl, rfl⟩)
end Go.Proofs.YteockpllnhjooaaGreatDoor
