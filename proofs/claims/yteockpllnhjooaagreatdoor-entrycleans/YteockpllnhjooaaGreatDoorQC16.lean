/-
  FnAddrC, FnAddrD.
-/
import Derived.Test.YteockpllnhjooaaGreatDoorQC14
import Derived.Test.YteockpllnhjooaaGreatDoorQC15
import Derived.Deep.RegionHeld
namespace Go.Proofs.YteockpllnhjooaaGreatDoor
open Go.RowKit NumMath
open AddrMath (pre post is No Ends cut3 colon splitD lower small labC isLab isHost isPort digit value hexV hexAt)
set_option maxRecDepth 100000
set_option linter.unusedVariables false
set_option linter.unusedSimpArgs false

set_option maxRecDepth 100000 in
set_option maxHeartbeats 4000000 in
theorem isPort_any (l : List Nat) (w : World) (hb : ∀ c ∈ l, c < 256) (hm : l.length ≤ 1000000000) :
    Calls Tryz.prog 74 #[.string (strN l)] w fun e w' => e = .returned (.bool (isPort l)) ∧ Below w.heap.size w w' := by
  have HP : Hid _ := AddrMath.isPort_parts l
  have hse := eq_lit [] [] rfl hb (by decide)
  have hsz := strN_size l
  have HH1 : Hid (∀ w, _) := fun w => hasPrefix_any l [48] hb (by decide) w
  by_cases h0 : l = []
  · rw [decide_eq_true h0] at hse
    have HF : Hid (isPort l = false) := by show isPort l = false; rw [h0]; decide
    clear h0
    go_enter Tryz.func74, Tryz.ntmps74
    go_wp2
    go_ret
    exact ⟨ret_bool HF.out.symm, Below.refl _ _⟩
  · rw [decide_eq_false h0] at hse
    have hpos : 0 < l.length := List.length_pos_iff.2 h0
    by_cases h5 : 5 < l.length
    · have HF : Hid (isPort l = false) := by show _ = _; rw [HP.out, decide_eq_false (show ¬ l.length ≤ 5 by omega)]; simp
      clear h0
      go_enter Tryz.func74, Tryz.ntmps74
      go_wp2
      go_ret
      exact ⟨ret_bool HF.out.symm, Below.refl _ _⟩
    · rw [decide_eq_true (show 1 ≤ l.length by omega), decide_eq_true (show l.length ≤ 5 by omega)] at HP
      simp only [Bool.true_and] at HP
      cases hp1 : [48].isPrefixOf l with
      | true =>
        rw [hp1] at HH1 HP
        have HF : Hid (isPort l = false) := by show _ = _; rw [HP.out]; rfl
        clear h0 hp1
        go_enter Tryz.func74, Tryz.ntmps74
        go_wp2_with (go_at_call 80; refine Calls.mono (HH1.out _) ?_; rintro e w2 ⟨rfl, h2w⟩; subst w2)
        go_ret
        exact ⟨ret_bool HF.out.symm, Below.refl _ _⟩
      | false =>
        rw [hp1] at HH1 HP
        have HF : Hid (isPort l = (l.all digit && decide (value l ≤ 65535))) := by show _ = _; rw [HP.out]; rfl
        have HI0 : Hid (Iter (w.alloc (.stringIter (strN l) 0)) w.heap.size l 0) := Iter.new _ l _ rfl
        have HB0 : Hid (Below w.heap.size w (w.alloc (.stringIter (strN l) 0))) := (Below.refl _ w).alloc (Nat.le_refl _) _
        clear h0 hp1 HP
        go_enter Tryz.func74, Tryz.ntmps74
        go_wp2_with (go_at_call 80; refine Calls.mono (HH1.out _) ?_; rintro e w2 ⟨rfl, h2w⟩; subst w2)
        go_loopw [3] (fun v wr => ∃ k q : Nat, Iter wr w.heap.size l k ∧ Below w.heap.size w wr ∧ (l.take k).all digit = true ∧ v = .int .i64 (q : Int) ∧ q = value (l.take k) ∧ q < 10 ^ k ∧ k ≤ l.length) (fun _ wr => l.length - wr.iterPos w.heap.size)
        case atStart => exact ⟨0, 0, HI0.out, HB0.out, by simp, rfl, rfl, by decide, by omega⟩
        case round =>
          clear HI0 HB0 HH1
          obtain ⟨k, q, hit, hbw, hall, rfl, hq, hq10, hkl⟩ := hrel
          have hlt := hit.lt
          have HIT : Hid _ := hit
          have HBW : Hid _ := hbw
          have HA : Hid _ := hall
          have HQ : Hid _ := hq
          have HQT : Hid _ := hq10
          have hq5 : q < 100000 := by
            have : 10 ^ k ≤ 10 ^ 5 := Nat.pow_le_pow_right (by decide) (by omega)
            have e : (10 : Nat) ^ 5 = 100000 := by decide
            omega
          clear hq hq10
          by_cases hp : k < l.length
          · obtain ⟨r, n, hnx, hv, hr, hn, hpn, hru, hdec⟩ := next_some hit hb hp
            obtain ⟨c, hc⟩ : ∃ c, l[k]? = some c := ⟨l[k], List.getElem?_eq_getElem hp⟩
            have HC : Hid _ := hc
            have HI2 : Hid _ := hit.set (k + n)
            have HB2 : Hid _ := Lib.below_iterAt hbw (k := w.heap.size) (by omega) (strN l) (k + n)
            have HM : Hid (l.length - (k + n) < l.length - wr.iterPos w.heap.size) := by
              show _ < _; rw [Iter.pos HIT.out]; omega
            cases hdig : digit c with
            | true =>
              have hdc := (AddrMath.digit_iff c).1 hdig
              have hd2 := AddrMath.dec_ascii hc (by omega)
              rw [hd2] at hdec
              obtain ⟨rfl, rfl⟩ := Prod.mk.inj hdec
              have HAn : Hid _ := AddrMath.all_take_succ hc hall hdig
              have HV : Hid _ := AddrMath.value_take hc
              clear hit hbw hru hdec hd2 hv hall hc hn
              generalize wr.iterAt w.heap.size (strN l) (k + 1) = w1 at *
              go_wp2_with (go_at_call 97; refine (isDigit_any c _ hr).mono ?_; rintro e w2 ⟨rfl, h2w⟩; subst w2)
              go_roundw
              case rel =>
                refine ⟨k + 1, q * 10 + (c - 48), HI2.out, HB2.out, HAn.out, ?_, ?_, ?_, by omega⟩
                · congr 1; omega
                · rw [HV.out, ← HQ.out]
                · have := HQT.out
                  rw [Nat.pow_succ]; omega
              case measure => rw [Iter.pos HI2.out]; exact HM.out
            | false =>
              have hlr := digit_dec hc hdig
              rw [hdec] at hlr
              have HFF : Hid (isPort l = false) := by show _ = _; rw [HF.out, AddrMath.all_false hc hdig]; rfl
              clear hit hbw hru hdec hv hall hc hn hdig
              generalize wr.iterAt w.heap.size (strN l) (k + n) = w1 at *
              go_wp2_with (go_at_call 97; refine (isDigit_any r _ hr).mono ?_; rintro e w2 ⟨rfl, h2w⟩; subst w2)
              go_ret
              exact ⟨ret_bool HFF.out.symm, HB2.out⟩
          · have hnx := next_none (l := l) hit hp
            have HFT : Hid (isPort l = decide (q ≤ 65535)) := by
              show _ = _
              have h1 : l.take k = l := List.take_of_length_le (by omega)
              rw [h1] at hall
              rw [HF.out, hall, HQ.out, h1]; rfl
            clear hit hbw hall
            go_wp2
            go_ret
            rw [HFT.out]
            refine ⟨ret_bool ?_, HBW.out⟩
            rw [Bool.eq_iff_iff]; simp; omega

/-- What siteForm answers. -/
def siteV (sch site : List Nat) : Value := if AddrMath.siteOk site then .tuple #[.string (strN (AddrMath.siteF sch site)), .bool true] else .tuple #[.string (strN []), .bool false]
theorem siteV_yes {sch site : List Nat} (h : AddrMath.siteOk site = true) : siteV sch site = .tuple #[.string (strN (AddrMath.siteF sch site)), .bool true] := by unfold siteV; rw [if_pos h]
theorem siteV_no {sch site : List Nat} (h : AddrMath.siteOk site = false) : siteV sch site = .tuple #[.string (strN []), .bool false] := by unfold siteV; rw [if_neg (by rw [h]; decide)]
set_option maxRecDepth 100000 in
set_option maxHeartbeats 4000000 in
theorem siteForm_any (site sch : List Nat) (w : World) (ht : MaxLen w) (hb : ∀ c ∈ site, c < 256) (hs : ∀ c ∈ sch, c < 256) (hm : site.length ≤ 10000) :
    Calls Tryz.prog 47 #[.string (strN site), .string (strN sch)] w fun e w' => e = .returned (siteV sch site) ∧ Below w.heap.size w w' := by
  have HT : Hid _ := ht
  have HC : Hid _ := cut1_any 58 (by decide) site hb w ht (by omega)
  have hhb : ∀ c ∈ pre (is 58) site, c < 256 := fun c hc => hb c (AddrMath.pre_mem hc)
  have hhl : (pre (is 58) site).length ≤ 10000 := by have := AddrMath.pre_len (is 58) site; omega
  have hpb : ∀ c ∈ (post (is 58) site).tail, c < 256 := fun c hc => hb c (AddrMath.post_mem (List.mem_of_mem_tail hc))
  have hpl : (post (is 58) site).length ≤ 10000 := by have := AddrMath.post_len (is 58) site; omega
  have hpc := AddrMath.post_cases (is 58) site
  have HO : Hid (AddrMath.siteOk site = (isHost (lower (pre (is 58) site)) && ((post (is 58) site).isEmpty || isPort (post (is 58) site).tail))) := rfl
  have HS : Hid (AddrMath.siteF sch site = lower (pre (is 58) site) ++ (if post (is 58) site = [] ∨ (post (is 58) site).tail = AddrMath.usual sch then [] else post (is 58) site)) := rfl
  generalize pre (is 58) site = h at *
  generalize post (is 58) site = po at *
  have hLb := AddrMath.lower_lt hhb
  have hLl := AddrMath.lower_len h
  have HSm : Hid (∀ w, _) := fun w => small_any h w hhb (by omega)
  generalize lower h = H at *
  have HHo : Hid (∀ w, MaxLen w → _) := fun w ht => isHost_any H w ht hLb (by omega)
  cases hho : isHost H with
  | false =>
    rw [hho] at HHo HO
    have HF : Hid (AddrMath.siteOk site = false) := by show _ = _; rw [HO.out]; rfl
    clear hpc ht hho
    go_enter Tryz.func47, Tryz.ntmps47
    go_wp2_with fail
    refine Calls.mono HC.out ?_
    rintro e w1 ⟨rfl, hb1⟩
    have HB1 : Hid _ := hb1
    clear hb1
    go_wp2_with fail
    refine Calls.mono (HSm.out _) ?_
    rintro e w2 ⟨rfl, hb2⟩
    have HB2 : Hid _ := HB1.out.trans (hb2.mono HB1.out.size)
    clear hb2
    go_wp2_with fail
    refine Calls.mono (HHo.out _ (MaxLen.later HT.out HB2.out)) ?_
    rintro e w3 ⟨rfl, hb3⟩
    have HB3 : Hid _ := HB2.out.trans (hb3.mono HB2.out.size)
    clear hb3
    go_wp2
    go_ret2
    rw [siteV_no HF.out]
    exact ⟨rfl, HB3.out⟩
  | true =>
    rw [hho] at HHo HO
    rcases hpc with hpo | ⟨c, p, hpo, hc⟩
    · have HF : Hid (AddrMath.siteOk site = true) := by show _ = _; rw [HO.out, hpo]; rfl
      have HS2 : Hid (AddrMath.siteF sch site = H) := by show _ = _; rw [HS.out, if_pos (.inl hpo), List.append_nil]
      rw [hpo] at HC
      have HC2 : Hid (Calls Tryz.prog 45 #[.string (strN site), .string (strN [58])] w fun e w' => e = .returned (.tuple #[.string (strN h), .string (strN []), .bool false]) ∧ Below w.heap.size w w') := HC.out
      clear hpo ht hho HC HS HO hpb hpl
      go_enter Tryz.func47, Tryz.ntmps47
      go_wp2_with fail
      refine Calls.mono HC2.out ?_
      rintro e w1 ⟨rfl, hb1⟩
      have HB1 : Hid _ := hb1
      clear hb1
      go_wp2_with fail
      refine Calls.mono (HSm.out _) ?_
      rintro e w2 ⟨rfl, hb2⟩
      have HB2 : Hid _ := HB1.out.trans (hb2.mono HB1.out.size)
      clear hb2
      go_wp2_with fail
      refine Calls.mono (HHo.out _ (MaxLen.later HT.out HB2.out)) ?_
      rintro e w3 ⟨rfl, hb3⟩
      have HB3 : Hid _ := HB2.out.trans (hb3.mono HB2.out.size)
      clear hb3
      go_wp2
      go_ret2
      rw [siteV_yes HF.out, HS2.out]
      exact ⟨rfl, HB3.out⟩
    · have hc58 : c = 58 := by simpa [is] using hc
      subst hc58
      subst hpo
      have HC2 : Hid (Calls Tryz.prog 45 #[.string (strN site), .string (strN [58])] w fun e w' => e = .returned (.tuple #[.string (strN h), .string (strN p), .bool true]) ∧ Below w.heap.size w w') := HC.out
      have hpb' : ∀ c ∈ p, c < 256 := hpb
      simp only [List.length_cons] at hpl
      have HPo : Hid (∀ w, _) := fun w => isPort_any p w hpb' (by omega)
      have HO2 : Hid (AddrMath.siteOk site = isPort p) := by show _ = _; rw [HO.out]; rfl
      cases hport : isPort p with
      | false =>
        rw [hport] at HPo HO2
        clear ht hho HC HS HO hpb hpl hc
        go_enter Tryz.func47, Tryz.ntmps47
        go_wp2_with fail
        refine Calls.mono HC2.out ?_
        rintro e w1 ⟨rfl, hb1⟩
        have HB1 : Hid _ := hb1
        clear hb1
        go_wp2_with fail
        refine Calls.mono (HSm.out _) ?_
        rintro e w2 ⟨rfl, hb2⟩
        have HB2 : Hid _ := HB1.out.trans (hb2.mono HB1.out.size)
        clear hb2
        go_wp2_with fail
        refine Calls.mono (HHo.out _ (MaxLen.later HT.out HB2.out)) ?_
        rintro e w3 ⟨rfl, hb3⟩
        have HB3 : Hid _ := HB2.out.trans (hb3.mono HB2.out.size)
        clear hb3
        go_wp2_with fail
        refine Calls.mono (HPo.out _) ?_
        rintro e w4 ⟨rfl, hb4⟩
        have HB4 : Hid _ := HB3.out.trans (hb4.mono HB3.out.size)
        clear hb4
        go_wp2
        go_ret2
        rw [siteV_no HO2.out]
        exact ⟨rfl, HB4.out⟩
      | true =>
        rw [hport] at HPo HO2
        have HU : Hid (∀ w, _) := fun w => usualPort_any sch hs w
        have heq := strN_eq hpb' (AddrMath.usual_lt sch)
        have HS3 : Hid (AddrMath.siteF sch site = H ++ (if p = AddrMath.usual sch then [] else 58 :: p)) := by
          show _ = _
          rw [HS.out]
          by_cases e : p = AddrMath.usual sch
          · rw [if_pos (.inr e), if_pos e]
          · rw [if_neg (by rintro (h | h); cases h; exact e h), if_neg e]
        generalize AddrMath.usual sch = U at *
        have hcat1 : ∀ w, (Op.stringOp BinOp.add (strN H) ⟨#[58]⟩).run Tryz.prog w = .ok (.string (strN (H ++ [58]))) w := sum_strN H [58] (by simp; omega)
        have hcat2 := sum_strN (H ++ [58]) p (by simp; omega)
        by_cases hpu : p = U
        · rw [decide_eq_true hpu] at heq
          have HS4 : Hid (AddrMath.siteF sch site = H) := by show _ = _; rw [HS3.out, if_pos hpu, List.append_nil]
          clear ht hho HC HS HO hpb hpl hc hpu HS3
          go_enter Tryz.func47, Tryz.ntmps47
          go_wp2_with fail
          refine Calls.mono HC2.out ?_
          rintro e w1 ⟨rfl, hb1⟩
          have HB1 : Hid _ := hb1
          clear hb1
          go_wp2_with fail
          refine Calls.mono (HSm.out _) ?_
          rintro e w2 ⟨rfl, hb2⟩
          have HB2 : Hid _ := HB1.out.trans (hb2.mono HB1.out.size)
          clear hb2
          go_wp2_with fail
          refine Calls.mono (HHo.out _ (MaxLen.later HT.out HB2.out)) ?_
          rintro e w3 ⟨rfl, hb3⟩
          have HB3 : Hid _ := HB2.out.trans (hb3.mono HB2.out.size)
          clear hb3
          go_wp2_with fail
          refine Calls.mono (HPo.out _) ?_
          rintro e w4 ⟨rfl, hb4⟩
          have HB4 : Hid _ := HB3.out.trans (hb4.mono HB3.out.size)
          clear hb4
          go_wp2_with fail
          refine Calls.mono (HU.out _) ?_
          rintro e w5 ⟨rfl, h5w⟩
          subst w5
          go_wp2
          go_ret2
          rw [siteV_yes HO2.out, HS4.out]
          exact ⟨rfl, HB4.out⟩
        · rw [decide_eq_false hpu] at heq
          have HS4 : Hid (AddrMath.siteF sch site = H ++ 58 :: p) := by show _ = _; rw [HS3.out, if_neg hpu]
          clear ht hho HC HS HO hpb hpl hc hpu HS3
          go_enter Tryz.func47, Tryz.ntmps47
          go_wp2_with fail
          refine Calls.mono HC2.out ?_
          rintro e w1 ⟨rfl, hb1⟩
          have HB1 : Hid _ := hb1
          clear hb1
          go_wp2_with fail
          refine Calls.mono (HSm.out _) ?_
          rintro e w2 ⟨rfl, hb2⟩
          have HB2 : Hid _ := HB1.out.trans (hb2.mono HB1.out.size)
          clear hb2
          go_wp2_with fail
          refine Calls.mono (HHo.out _ (MaxLen.later HT.out HB2.out)) ?_
          rintro e w3 ⟨rfl, hb3⟩
          have HB3 : Hid _ := HB2.out.trans (hb3.mono HB2.out.size)
          clear hb3
          go_wp2_with fail
          refine Calls.mono (HPo.out _) ?_
          rintro e w4 ⟨rfl, hb4⟩
          have HB4 : Hid _ := HB3.out.trans (hb4.mono HB3.out.size)
          clear hb4
          go_wp2_with fail
          refine Calls.mono (HU.out _) ?_
          rintro e w5 ⟨rfl, h5w⟩
          subst w5
          go_wp2
          go_ret2
          rw [siteV_yes HO2.out, HS4.out]
          exact ⟨rfl, HB4.out⟩
theorem hexDigit_any (c : Nat) (w : World) (h : c < 256) :
    Calls Tryz.prog 98 #[.int .u8 (c : Int)] w fun e w' => e = .returned (.tuple #[.int .u8 (((hexV c).getD 0 : Nat) : Int), .bool (hexV c).isSome]) ∧ w' = w := by
  have HV : Hid (hexV c = if 48 ≤ c ∧ c ≤ 57 then some (c - 48) else if 97 ≤ c ∧ c ≤ 102 then some (c - 87) else if 65 ≤ c ∧ c ≤ 70 then some (c - 55) else none) := rfl
  go_enter Tryz.func98, Tryz.ntmps98
  go_wp2
  all_goals go_ret2
  all_goals refine ⟨?_, rfl⟩
  all_goals rw [HV.out]
  all_goals simp at *
  all_goals first
    | (rw [if_pos (by omega)]; refine ⟨?_, rfl⟩; simp; omega)
    | (rw [if_neg (by omega), if_pos (by omega)]; refine ⟨?_, rfl⟩; simp; omega)
    | (rw [if_neg (by omega), if_neg (by omega), if_pos (by omega)]; refine ⟨?_, rfl⟩; simp; omega)
    | (rw [if_neg (by omega), if_neg (by omega), if_neg (by omega)]; exact ⟨rfl, rfl⟩)
end Go.Proofs.YteockpllnhjooaaGreatDoor
namespace Go.Proofs.YteockpllnhjooaaGreatDoor
open Go.RowKit NumMath
open AddrMath (pre post is No Ends cut3 colon splitD lower small labC isLab isHost isPort digit value hexV hexAt hexD escape meant plain)
set_option maxRecDepth 100000
set_option linter.unusedVariables false
set_option linter.unusedSimpArgs false

/-- bytes as values -/
def bv (l : List Nat) : List Value := l.map fun n : Nat => Value.int .u8 (n : Int)
theorem bv_len (l : List Nat) : (bv l).length = l.length := by simp [bv]
theorem bv_app (a b : List Nat) : bv (a ++ b) = bv a ++ bv b := by simp [bv]
theorem bv_ints (l : List Nat) : bv l = (ints8 l).map (Value.int .u8) := by simp [bv, ints8]
theorem bv_one (l : List Nat) : ∀ u ∈ bv l, u.oneCell' = true := by
  intro u hu
  obtain ⟨n, _, rfl⟩ := List.mem_map.1 hu
  rfl
theorem or4 (a b : Nat) (ha : a < 16) (hb : b < 16) : bits .or .u8 ((a : Int) * 16) (b : Int) = ((16 * a + b : Nat) : Int) := by
  have := bits_join .u8 8 (by decide) wraps_u8 4 ((a : Int) * 16) (b : Int) (by omega) (by rw [show (2 : Int) ^ 4 = 16 by decide]; omega) (by rw [show (2 : Int) ^ 8 = 256 by decide]; omega) (by omega) (by rw [show (2 : Int) ^ 4 = 16 by decide]; omega) (by rw [show (2 : Int) ^ 8 = 256 by decide]; omega)
  rw [this]; omega
theorem and15b (c : Nat) (hc : c < 256) : bits .and .u8 (c : Int) 15 = ((c % 16 : Nat) : Int) := by
  have := bits_mask .u8 8 (by decide) wraps_u8 4 (by decide) (c : Int) (by omega) (by omega)
  rw [show ((2 : Int) ^ 4 - 1) = 15 by decide] at this
  rw [this]; simp
theorem hexAt_none (l : List Nat) (h : l.length < 2) : hexAt l = none := by
  match l, h with
  | [], _ => rfl
  | [_], _ => rfl
  | _ :: _ :: _, h => simp at h; omega

set_option maxRecDepth 100000 in
theorem hexByte_any (l : List Nat) (w : World) (hb : ∀ c ∈ l, c < 256) (hm : l.length ≤ 1000000000) :
    Calls Tryz.prog 76 #[.string (strN l)] w fun e w' => (∃ v : Nat, e = .returned (.tuple #[.int .u8 (v : Int), .bool (hexAt l).isSome]) ∧ ∀ x, hexAt l = some x → v = x) ∧ w' = w := by
  have hsz := strN_size l
  by_cases h2 : l.length < 2
  · have HN : Hid _ := hexAt_none l h2
    go_enter Tryz.func76, Tryz.ntmps76
    go_wp2
    go_ret2
    rw [HN.out]
    exact ⟨⟨0, rfl, fun x h => by cases h⟩, rfl⟩
  · match l, h2 with
    | [], h2 => simp at h2
    | [_], h2 => simp at h2
    | a :: b :: t, h2 =>
      have ha := hb a (by simp)
      have hb' := hb b (by simp)
      have hix0 : ∀ w, (Instr.index 9 (.string (strN (a :: b :: t))) (.int .i64 0)).run Tryz.prog w = .ok (.int .u8 (a : Int)) w := fun w => index_strN (a :: b :: t) hb 0 (by simp) .i64 w
      have hix1 : ∀ w, (Instr.index 9 (.string (strN (a :: b :: t))) (.int .i64 1)).run Tryz.prog w = .ok (.int .u8 (b : Int)) w := fun w => index_strN (a :: b :: t) hb 1 (by simp) .i64 w
      have HH : Hid (∀ w, _) := fun w => hexDigit_any a w ha
      have HL : Hid (∀ w, _) := fun w => hexDigit_any b w hb'
      have HA : Hid (hexAt (a :: b :: t) = match hexV a, hexV b with | some h, some l => some (16 * h + l) | _, _ => none) := rfl
      have hla : (hexV a).getD 0 < 16 := by
        cases e : hexV a with
        | none => decide
        | some x => exact AddrMath.hexV_lt e
      have hlb : (hexV b).getD 0 < 16 := by
        cases e : hexV b with
        | none => decide
        | some x => exact AddrMath.hexV_lt e
      have hor := or4 _ _ hla hlb
      have HR : Hid (∀ x, hexAt (a :: b :: t) = some x → 16 * (hexV a).getD 0 + (hexV b).getD 0 = x) := by
        intro x hx
        rw [HA.out] at hx
        cases e1 : hexV a with
        | none => rw [e1] at hx; cases hx
        | some y => cases e2 : hexV b with
          | none => rw [e1, e2] at hx; cases hx
          | some z => rw [e1, e2] at hx; exact Option.some.inj hx
      have HS : Hid ((hexAt (a :: b :: t)).isSome = ((hexV a).isSome && (hexV b).isSome)) := by
        show _ = _
        rw [HA.out]
        cases hexV a with
        | none => rfl
        | some y => cases hexV b with
          | none => rfl
          | some z => rfl
      generalize hexAt (a :: b :: t) = R at *
      generalize (hexV a).getD 0 = va at *
      generalize (hexV b).getD 0 = vb at *
      obtain ⟨o, ho, hoe⟩ : ∃ o : Nat, bits .or .u8 ((va : Int) * 16) (vb : Int) = (o : Int) ∧ o = 16 * va + vb := ⟨_, hor, rfl⟩
      have HOE : Hid _ := hoe
      clear hor hoe HA
      generalize strN (a :: b :: t) = s at *
      simp only [List.length_cons] at hsz hm h2
      cases hs1 : (hexV a).isSome with
      | true =>
        rw [hs1] at HH HS
        go_enter Tryz.func76, Tryz.ntmps76
        go_wp2_with fail
        refine Calls.mono (HH.out _) ?_
        rintro e w1 ⟨rfl, h1w⟩
        subst w1
        go_wp2_with fail
        refine Calls.mono (HL.out _) ?_
        rintro e w1 ⟨rfl, h1w⟩
        subst w1
        go_wp2
        go_ret2
        rw [HS.out]
        exact ⟨⟨o, rfl, fun x h => by rw [HOE.out]; exact HR.out x h⟩, rfl⟩
      | false =>
        rw [hs1] at HH HS
        go_enter Tryz.func76, Tryz.ntmps76
        go_wp2_with fail
        refine Calls.mono (HH.out _) ?_
        rintro e w1 ⟨rfl, h1w⟩
        subst w1
        go_wp2_with fail
        refine Calls.mono (HL.out _) ?_
        rintro e w1 ⟨rfl, h1w⟩
        subst w1
        go_wp2
        go_ret2
        rw [HS.out]
        exact ⟨⟨o, rfl, fun x h => by rw [HOE.out]; exact HR.out x h⟩, rfl⟩

set_option maxRecDepth 100000 in
set_option maxHeartbeats 4000000 in
theorem appendHex_any (base : Nat) (v : Value) (l : List Nat) (b : Nat) (w : World) (hown : Own w base 5 v (bv l)) (hb : b < 256) (hl : l.length + 3 ≤ 100000000) (hbase : base ≤ w.heap.size) :
    Calls Tryz.prog 81 #[v, .int .u8 (b : Int)] w fun e w' => ∃ v', e = .returned v' ∧ Own w' base 5 v' (bv (l ++ escape b)) ∧ Below base w w' ∧ ∀ k, k < w.heap.size → some k ≠ v.ownBlock → w'.heap[k]? = w.heap[k]? := by
  obtain ⟨i0, hi, hz0, hz1, hz2⟩ := info_parts Tryz.info5
  have HE : Hid (escape b = [37, hexD (b / 16), hexD (b % 16)]) := rfl
  have hd : ∀ k : Fin 16, ([48, 49, 50, 51, 52, 53, 54, 55, 56, 57, 65, 66, 67, 68, 69, 70] : List Nat)[k.val]?.getD 0 = hexD k.val := by decide
  have hix : ∀ (k : Nat), k < 16 → ∀ w, (Instr.index 9 (.string ⟨#[48, 49, 50, 51, 52, 53, 54, 55, 56, 57, 65, 66, 67, 68, 69, 70]⟩) (.int .u8 (k : Int))).run Tryz.prog w = .ok (.int .u8 ((hexD k : Nat) : Int)) w := by
    intro k hk w
    have := index_strN [48, 49, 50, 51, 52, 53, 54, 55, 56, 57, 65, 66, 67, 68, 69, 70] (by decide) k (by simpa using hk) .u8 w
    rw [hd ⟨k, hk⟩] at this
    exact this
  obtain ⟨p, hp, hpe⟩ : ∃ p : Nat, (b : Int) / 16 = (p : Int) ∧ p = b / 16 := ⟨b / 16, by omega, rfl⟩
  obtain ⟨q, hq, hqe⟩ : ∃ q : Nat, bits .and .u8 (b : Int) 15 = (q : Int) ∧ q = b % 16 := ⟨b % 16, and15b b hb, rfl⟩
  have hixp := hix p (by omega)
  have hixq := hix q (by omega)
  rw [← hpe, ← hqe] at HE
  have HO : Hid _ := hown
  clear hix hd hpe hqe hown
  generalize hexD p = x at *
  generalize hexD q = y at *
  go_enter Tryz.func81, Tryz.ntmps81
  go_wp2
  refine wp_region_held_drew (S := fun w' => Below base w w') rfl ((Below.refl _ _).drew) (fun hS => ?_)
  refine wpAnyH_take (i := 0) (v := ?_) rfl (by kernel_rfl) (by kernel_rfl) (by kernel_rfl) (fun _ _ _ h => h) (Or.inl ⟨by rfl, ?_⟩) hS ?_
  rotate_left 1
  · intro w hSw; (try dsimp only at hSw); go_simp <;> with_reducible rfl
  simp only [List.getElem_toArray, List.getElem_cons_zero, List.getElem_cons_succ, Act.put, List.setIfInBounds_toArray, List.set_cons_zero, List.set_cons_succ]
  refine wpAnyH_take (i := 1) (v := ?_) rfl (by kernel_rfl) (by kernel_rfl) (by kernel_rfl) (fun _ _ _ h => h) (Or.inl ⟨by rfl, ?_⟩) hS ?_
  rotate_left 1
  · intro w hSw; (try dsimp only at hSw); go_simp <;> with_reducible rfl
  simp only [List.getElem_toArray, List.getElem_cons_zero, List.getElem_cons_succ, Act.put, List.setIfInBounds_toArray, List.set_cons_zero, List.set_cons_succ]
  refine wpAnyH_take (i := 2) (v := ?_) rfl (by kernel_rfl) (by kernel_rfl) (by kernel_rfl) (fun _ _ _ h => h) (Or.inl ⟨by rfl, ?_⟩) hS ?_
  rotate_left 1
  · intro w hSw; (try dsimp only at hSw); go_simp <;> with_reducible rfl
  simp only [List.getElem_toArray, List.getElem_cons_zero, List.getElem_cons_succ, Act.put, List.setIfInBounds_toArray, List.set_cons_zero, List.set_cons_succ]
  refine wpAnyH_take (i := 3) (v := ?_) rfl (by kernel_rfl) (by kernel_rfl) (by kernel_rfl) (fun _ _ _ h => h) (Or.inl ⟨by rfl, ?_⟩) hS ?_
  rotate_left 1
  · intro w hSw; (try dsimp only at hSw); go_simp <;> with_reducible rfl
  simp only [List.getElem_toArray, List.getElem_cons_zero, List.getElem_cons_succ, Act.put, List.setIfInBounds_toArray, List.set_cons_zero, List.set_cons_succ]
  refine wpAnyH_take (i := 4) (v := ?_) rfl (by kernel_rfl) (by kernel_rfl) (by kernel_rfl) (fun _ _ _ h => h) (Or.inl ⟨by rfl, ?_⟩) hS ?_
  rotate_left 1
  · intro w hSw; (try dsimp only at hSw); go_simp <;> with_reducible rfl
  simp only [List.getElem_toArray, List.getElem_cons_zero, List.getElem_cons_succ, Act.put, List.setIfInBounds_toArray, List.set_cons_zero, List.set_cons_succ]
  refine wpAnyH_take (i := 5) (v := ?_) rfl (by kernel_rfl) (by kernel_rfl) (by kernel_rfl) (fun _ _ _ h => h) (Or.inl ⟨by rfl, ?_⟩) hS ?_
  rotate_left 1
  · intro w hSw; (try dsimp only at hSw); go_simp <;> with_reducible rfl
  simp only [List.getElem_toArray, List.getElem_cons_zero, List.getElem_cons_succ, Act.put, List.setIfInBounds_toArray, List.set_cons_zero, List.set_cons_succ]
  refine wpAnyH_take (i := 6) (v := ?_) rfl (by kernel_rfl) (by kernel_rfl) (by kernel_rfl) (fun _ _ _ h => h) (Or.inl ⟨by rfl, ?_⟩) hS ?_
  rotate_left 1
  · intro w hSw; (try dsimp only at hSw); go_simp <;> with_reducible rfl
  simp only [List.getElem_toArray, List.getElem_cons_zero, List.getElem_cons_succ, Act.put, List.setIfInBounds_toArray, List.set_cons_zero, List.set_cons_succ]
  refine wpAnyH_ready (rs := [7]) (by kernel_rfl) (by simp) ?_
  refine AllReadyH.cons rfl (fun K hK => ?_) AllReadyH.nil
  go_simp
  have hS1 : Below base w (w.alloc (Obj.cells #[Value.int IntKind.u8 37, Value.int IntKind.u8 (x : Int), Value.int IntKind.u8 (y : Int)] 5)).drew := Below.drew ((Below.refl _ _).alloc hbase _)
  refine hK.out _ _ hS1 (fun hS => ?_)
  clear hK K
  have HO1 : Hid (Own (w.alloc (Obj.cells #[Value.int IntKind.u8 37, Value.int IntKind.u8 (x : Int), Value.int IntKind.u8 (y : Int)] 5)).drew base 5 v (bv l)) := Own.alloc HO.out _
  have HC : Hid (∀ j u, (bv [37, x, y])[j]? = some u → ((w.alloc (Obj.cells #[Value.int IntKind.u8 37, Value.int IntKind.u8 (x : Int), Value.int IntKind.u8 (y : Int)] 5)).drew).cell? ((⟨w.heap.size, 0, none⟩ : Addr).add j) = some u) := by
    intro j u hu
    match j, hu with
    | 0, hu => simp [bv] at hu; subst hu; simp [Addr.add]
    | 1, hu => simp [bv] at hu; subst hu; simp [Addr.add]
    | 2, hu => simp [bv] at hu; subst hu; simp [Addr.add]
  refine wpAnyH_ready (rs := [8]) (by kernel_rfl) (by simp) ?_
  refine AllReadyH.cons rfl (fun K hK => ?_) AllReadyH.nil
  refine wp_append_own _ (.tmp 5) (.tmp 12) 48 rfl base 5 i0 (.int .u8 0) 1 1 Tryz.underlying48 hi hz0 hz1 hz2 rfl (by decide) v l.length (bv l) rfl (by have := HO1.out; unfold Own at this; rw [bv_len] at this; exact this) ⟨w.heap.size, 0, none⟩ 3 3 (bv [37, x, y]) rfl rfl HC.out (bv_one _) (by unfold maxLen; omega) (by omega) (by simp; omega) ?_
  intro v' w' hown' hgrow' _
  have HO2 : Hid (Own w' base 5 v' (bv (l ++ escape b))) := by
    show Own _ _ _ _ _
    unfold Own
    rw [HE.out, bv_app, List.length_append, bv_len, bv_len]
    exact hown'
  have HB2 : Hid (Below base w w') := ((((Below.refl base w).alloc hbase _).drew).grown hgrow' (by simp; omega) (fun k hk => (World.ownsRow.lt HO1.out k hk).1))
  have HK2 : Hid (∀ k, k < w.heap.size → some k ≠ v.ownBlock → w'.heap[k]? = w.heap[k]?) := by
    intro k hk hne
    rw [hgrow'.block k (by simp; omega) hne]
    show (w.alloc _).heap[k]? = _
    rw [Lib.alloc_old w _ k hk]
  refine hK.out _ _ HB2.out (fun hS => ?_)
  clear hK K hown' hgrow' HC HO1
  simp only [List.getElem_toArray, List.getElem_cons_zero, List.getElem_cons_succ, Act.put, List.setIfInBounds_toArray, List.set_cons_zero, List.set_cons_succ]
  refine wpAnyH_take (i := 9) (v := ?_) rfl (by kernel_rfl) (by kernel_rfl) (by kernel_rfl) (fun _ _ _ h => h) (Or.inl ⟨by rfl, ?_⟩) hS ?_
  rotate_left 1
  · intro w hSw; (try dsimp only at hSw); go_simp <;> with_reducible rfl
  simp only [List.getElem_toArray, List.getElem_cons_zero, List.getElem_cons_succ, Act.put, List.setIfInBounds_toArray, List.set_cons_zero, List.set_cons_succ]
  refine wpAnyH_done (by kernel_rfl) ?_ _
  go_wp2
  go_ret
  exact ⟨v', rfl, HO2.out, HB2.out, HK2.out⟩

section
variable {ops : Array Oper} {rest : List Oper} {o : Oper} {a : Act} {w : World} {Q : Exit → Act → World → Prop}
/-- append of one byte. -/
theorem wpList_app_u8 (hgd : o.guard = none) (s x : Operand) (ho : o.op = .call { callee := .builtin .append, args := #[s, x], argTypes := #[48, 48] })
    (base : Nat) (v : Value) (vs : List Value) (u : Value) (hs : a.eval s = v) (hown : Own w base 5 v vs) (g : Nat) (hx : a.eval x = .slice (some ⟨g, 0, none⟩) 1 1) (hc : w.cell? ⟨g, 0, none⟩ = some u) (hu : u.oneCell' = true)
    (hl : vs.length + 1 ≤ 17592186044416) (hbase : base ≤ w.heap.size)
    (h : ∀ v' w', Own w' base 5 v' (vs ++ [u]) → w.grownBy w' v.ownBlock → wpList Tryz.prog ops Q rest (a.put o.dst v') w') : wpList Tryz.prog ops Q (o :: rest) a w := by
  obtain ⟨i0, hi, hz0, hz1, hz2⟩ := info_parts Tryz.info5
  refine wpList_append_own_any hgd s x 48 ho base 5 i0 (.int .u8 0) 1 1 Tryz.underlying48 hi hz0 hz1 hz2 rfl (by decide) v vs.length vs hs hown (some ⟨g, 0, none⟩) 1 1 [u] hx rfl (by simp) ?_ ?_ (by unfold maxLen; omega) (by omega) hbase ?_
  · intro ad had j y hy
    obtain rfl := Option.some.inj had
    match j, hy with
    | 0, hy => simp at hy; subst hy; simpa [Addr.add] using hc
  · intro y hy; simp at hy; subst hy; exact hu
  · intro v' w' h1 h2
    exact h v' w' (by unfold Own; rw [List.length_append]; exact h1) h2
end

set_option maxRecDepth 100000 in
set_option maxHeartbeats 4000000 in
theorem appendMeant_any (base : Nat) (v : Value) (l : List Nat) (b : Nat) (w : World) (hown : Own w base 5 v (bv l)) (hb : b < 256) (hl : l.length + 3 ≤ 100000000) (hbase : base ≤ w.heap.size) :
    Calls Tryz.prog 77 #[v, .int .u8 (b : Int)] w fun e w' => ∃ v', e = .returned v' ∧ Own w' base 5 v' (bv (l ++ meant b)) ∧ Below base w w' := by
  have HM : Hid (meant b = if plain b then [b] else escape b) := rfl
  have HO : Hid _ := hown
  have HF : Hid (∀ w, _) := fun w => isFree_any b w (by omega)
  clear hown
  cases hp : plain b with
  | true =>
    rw [hp] at HF HM
    have HM1 : Hid (meant b = [b]) := HM.out
    go_enter Tryz.func77, Tryz.ntmps77
    go_wp2_with (first | (go_at_call 78; refine Calls.mono (HF.out _) ?_; rintro e w2 ⟨rfl, h2w⟩; subst w2) | (at_builtin; refine wpList_app_u8 rfl _ _ rfl base _ (bv l) (.int .u8 (b : Int)) rfl (Own.alloc HO.out _) _ rfl (by simp) rfl (by rw [bv_len]; omega) (by simp; omega) ?_; intro v2 w2 hown2 hgrow2))
    go_ret
    refine ⟨v2, rfl, ?_, ?_⟩
    · rw [HM1.out, bv_app]; exact hown2
    · exact ((Below.refl base w).alloc hbase _).grown hgrow2 (by simp; omega) (fun k hk => (World.ownsRow.lt HO.out k hk).1)
  | false =>
    rw [hp] at HF HM
    have HM1 : Hid (meant b = escape b) := HM.out
    have HA : Hid _ := appendHex_any base v l b w HO.out hb hl hbase
    go_enter Tryz.func77, Tryz.ntmps77
    go_wp2_with (first | (go_at_call 78; refine Calls.mono (HF.out _) ?_; rintro e w2 ⟨rfl, h2w⟩; subst w2) | (go_at_call 81; refine Calls.mono HA.out ?_; rintro e w2 ⟨v2, rfl, hown2, hb2, _⟩))
    go_ret
    exact ⟨v2, rfl, by rw [HM1.out]; exact hown2, hb2⟩
end Go.Proofs.YteockpllnhjooaaGreatDoor
