/-
  Walks of addr.Parse, Right, Host, Less; strings.Clone.
-/
import Derived.Test.YteockpllnhjooaaGreatDoorFnAddrH
import Derived.Test.YteockpllnhjooaaGreatDoorAddrLens
namespace Go.Proofs.YteockpllnhjooaaGreatDoor
open Go.RowKit NumMath
open AddrMath (pre post is No Ends cut3 colon splitD lower way dots siteOk siteF combine finish parse parseP http https)
set_option maxRecDepth 100000
set_option linter.unusedVariables false
set_option linter.unusedSimpArgs false

theorem siteV_eq (sch site : List Nat) : siteV sch site = .tuple #[.string (strN (if siteOk site then siteF sch site else [])), .bool (siteOk site)] := by
  cases h : siteOk site with
  | true => rw [siteV_yes h]; rfl
  | false => rw [siteV_no h]; rfl
theorem wayV_eq (l : List Nat) : wayV l = .tuple #[.string (strN ((way true l).getD [])), .bool (way true l).isSome] := by
  cases h : way true l with
  | none => rw [wayV_none h]; rfl
  | some f => rw [wayV_some h]; rfl
theorem combine_flat (sch site pa qu : List Nat) : combine sch (pre (is 58) site) (post (is 58) site) pa qu = if (siteOk site && (way true pa.tail).isSome && (way true qu.tail).isSome) = true then some (((sch ++ colon) ++ (if siteOk site then siteF sch site else [])) ++ dots ((way true pa.tail).getD []) ++ (if qu = [] then [] else 63 :: (way true qu.tail).getD [])) else none := by
  rw [AddrMath.combine_site]
  cases siteOk site with
  | false => rfl
  | true => cases way true pa.tail with
    | none => rfl
    | some p => cases way true qu.tail with
      | none => rfl
      | some y => simp
/-- What Parse answers. -/
def parseV (s : List Nat) : Value := .tuple #[.string (strN (parse s).1), .int .i64 (((parse s).2 : Nat) : Int)]

set_option maxRecDepth 100000 in
set_option maxHeartbeats 8000000 in
theorem parse_any (s : List Nat) (w : World) (ht : MaxLen w) (hb : ∀ c ∈ s, c < 256) (hm : s.length ≤ 10000) :
    Calls Tryz.prog 24 #[.string (strN s)] w fun e w' => e = .returned (parseV s) ∧ Below w.heap.size w w' := by
  have HT : Hid _ := ht
  have HP : Hid _ := AddrMath.parseP_is s
  have HV : Hid (parseV s = .tuple #[.string (strN (parse s).1), .int .i64 (((parse s).2 : Nat) : Int)]) := rfl
  have HC1 : Hid (∀ w, MaxLen w → _) := fun w ht => cut1_any 35 (by decide) s hb w ht (by omega)
  have h0b : ∀ c ∈ pre (is 35) s, c < 256 := fun c hc => hb c (AddrMath.pre_mem hc)
  have h0l := AddrMath.pre_len (is 35) s
  have HPP : Hid (parseP s = match cut3 (pre (is 63) (pre (is 35) s)) with | none => ([], 25) | some (u, r) => if lower u = http ∨ lower u = https then finish (combine (lower u) (pre (is 58) (pre (is 47) r)) (post (is 58) (pre (is 47) r)) (post (is 47) r) (post (is 63) (pre (is 35) s))) else ([], 25)) := rfl
  generalize parseP s = R0 at *
  generalize (post (is 35) s).tail = frt at *
  generalize (!(post (is 35) s).isEmpty) = frb at *
  generalize pre (is 35) s = s0 at *
  have HC2 : Hid (∀ w, MaxLen w → _) := fun w ht => cut1_any 63 (by decide) s0 h0b w ht (by omega)
  have h1b : ∀ c ∈ pre (is 63) s0, c < 256 := fun c hc => h0b c (AddrMath.pre_mem hc)
  have h1l := AddrMath.pre_len (is 63) s0
  have hqb : ∀ c ∈ (post (is 63) s0).tail, c < 256 := fun c hc => h0b c (AddrMath.post_mem (List.mem_of_mem_tail hc))
  have hql := AddrMath.post_len (is 63) s0
  have hqt : (post (is 63) s0).tail.length ≤ 10000 := by rw [List.length_tail]; omega
  generalize pre (is 63) s0 = s1 at *
  generalize hqu : post (is 63) s0 = qu at *
  have HC3 : Hid (∀ w, MaxLen w → _) := fun w ht => cutC_any s1 h1b w ht (by omega)
  clear ht
  cases hc3 : cut3 s1 with
  | none =>
    have hcv : cutV s1 = .tuple #[.string (strN s1), .string (strN []), .bool false] := by unfold cutV; rw [hc3]
    rw [hcv] at HC3
    have HF : Hid (parseV s = .tuple #[.string (strN []), .int .i64 25]) := by
      show _ = _
      have e : parse s = ([], 25) := by rw [← HP.out, HPP.out, hc3]
      rw [HV.out, e]; rfl
    have HC4 : Hid (∀ w, MaxLen w → Calls Tryz.prog 45 #[.string (strN []), .string (strN [47])] w fun e w' => e = .returned (.tuple #[.string (strN []), .string (strN []), .bool false]) ∧ Below w.heap.size w w') := fun w ht => cut1_any 47 (by decide) [] (by simp) w ht (by simp)
    have HSm : Hid (∀ w, _) := fun w => small_any s1 w h1b (by omega)
    clear hcv hc3 HPP HP HV
    go_enter Tryz.func24, Tryz.ntmps24
    go_wp2_with fail
    refine Calls.mono (HC1.out _ HT.out) ?_
    rintro e w1 ⟨rfl, hb1⟩
    have HB1 : Hid _ := hb1
    clear hb1
    go_wp2_with fail
    refine Calls.mono (HC2.out _ (MaxLen.later HT.out HB1.out)) ?_
    rintro e w2 ⟨rfl, hb2⟩
    have HB2 : Hid _ := HB1.out.trans (hb2.mono HB1.out.size)
    clear hb2
    go_wp2_with fail
    refine Calls.mono (HC3.out _ (MaxLen.later HT.out HB2.out)) ?_
    rintro e w3 ⟨rfl, hb3⟩
    have HB3 : Hid _ := HB2.out.trans (hb3.mono HB2.out.size)
    clear hb3
    go_wp2_with fail
    refine Calls.mono (HC4.out _ (MaxLen.later HT.out HB3.out)) ?_
    rintro e w4 ⟨rfl, hb4⟩
    have HB4 : Hid _ := HB3.out.trans (hb4.mono HB3.out.size)
    clear hb4
    go_wp2_with fail
    refine Calls.mono (HSm.out _) ?_
    rintro e w5 ⟨rfl, hb5⟩
    have HB5 : Hid _ := HB4.out.trans (hb5.mono HB4.out.size)
    clear hb5
    go_wp2
    go_ret2
    rw [HF.out]
    exact ⟨rfl, HB5.out⟩
  | some ur =>
    obtain ⟨u, r⟩ := ur
    have hcv : cutV s1 = .tuple #[.string (strN u), .string (strN r), .bool true] := by unfold cutV; rw [hc3]
    rw [hcv] at HC3
    have hes := AddrMath.cut3_some hc3
    have hub : ∀ c ∈ u, c < 256 := fun c hc => h1b c (by rw [hes]; simp [hc])
    have hrb : ∀ c ∈ r, c < 256 := fun c hc => h1b c (by rw [hes]; simp [hc])
    have hul : u.length ≤ 10000 ∧ r.length ≤ 10000 := by have := congrArg List.length hes; simp at this; omega
    have HP2 : Hid (parse s = if lower u = http ∨ lower u = https then finish (combine (lower u) (pre (is 58) (pre (is 47) r)) (post (is 58) (pre (is 47) r)) (post (is 47) r) qu) else ([], 25)) := by
      show _ = _
      rw [← HP.out, HPP.out, hc3]
    have HC4 : Hid (∀ w, MaxLen w → _) := fun w ht => cut1_any 47 (by decide) r hrb w ht (by omega)
    have hsb : ∀ c ∈ pre (is 47) r, c < 256 := fun c hc => hrb c (AddrMath.pre_mem hc)
    have hsl := AddrMath.pre_len (is 47) r
    have hpb : ∀ c ∈ (post (is 47) r).tail, c < 256 := fun c hc => hrb c (AddrMath.post_mem (List.mem_of_mem_tail hc))
    have hpl := AddrMath.post_len (is 47) r
    have hpt : (post (is 47) r).tail.length ≤ 10000 := by rw [List.length_tail]; omega
    have HSm : Hid (∀ w, _) := fun w => small_any u w hub (by omega)
    have hUb := AddrMath.lower_lt hub
    have hUl := AddrMath.lower_len u
    generalize lower u = U at *
    generalize pre (is 47) r = site at *
    generalize post (is 47) r = pa at *
    have hq1 := eq_lit http [104, 116, 116, 112] rfl hUb (by decide)
    have hq2 := eq_lit https [104, 116, 116, 112, 115] rfl hUb (by decide)
    have hn1 : ((strN U).toList != [104, 116, 116, 112]) = !decide (U = http) := by rw [bne, hq1]
    have hn2 : ((strN U).toList != [104, 116, 116, 112, 115]) = !decide (U = https) := by rw [bne, hq2]
    clear hcv hc3 HPP HP hes
    by_cases hS : U = http ∨ U = https
    · have HP3 : Hid (parse s = finish (combine U (pre (is 58) site) (post (is 58) site) pa qu)) := by show _ = _; rw [HP2.out, if_pos hS]
      have hSl : U.length ≤ 5 := by rcases hS with h | h <;> rw [h] <;> decide
      have hs1000 : site.length ≤ 10000 := by omega
      have HSF : Hid (∀ w, MaxLen w → _) := fun w ht => siteForm_any site U w ht hsb hUb hs1000
      have HW1 : Hid (∀ w, _) := fun w => runesForm_any pa.tail w hpb (by omega)
      have HW2 : Hid (∀ w, _) := fun w => runesForm_any qu.tail w hqb (by omega)
      rw [siteV_eq] at HSF
      rw [wayV_eq] at HW1 HW2
      rw [combine_flat] at HP3
      have hX1b : ∀ c ∈ (if siteOk site then AddrMath.siteF U site else []), c < 256 := by
        split
        · exact AddrMath.siteF_lt hsb
        · intro c hc; cases hc
      have hX1l : (if siteOk site then AddrMath.siteF U site else []).length ≤ 10000 := by
        split
        · have := AddrMath.siteF_len U site; omega
        · simp
      have hwl : ∀ l : List Nat, (∀ c ∈ l, c < 256) → l.length ≤ 10000 → (∀ c ∈ (way true l).getD [], c < 256) ∧ ((way true l).getD []).length ≤ 30000 := by
        intro l h1 h2
        cases hw : way true l with
        | none => exact ⟨(by intro c hc; cases hc), by simp⟩
        | some f =>
          have h3 := AddrMath.way_len l.length l f (Nat.le_refl _) hw
          exact ⟨AddrMath.norm_lt (AddrMath.norm_way l.length l f (Nat.le_refl _) hw), by show f.length ≤ 30000; omega⟩
      obtain ⟨hX2b, hX2l⟩ := hwl pa.tail hpb hpt
      obtain ⟨hX3b, hX3l⟩ := hwl qu.tail hqb hqt
      clear hwl
      generalize (if siteOk site then AddrMath.siteF U site else []) = X1 at *
      generalize siteOk site = b1 at *
      generalize (way true pa.tail).getD [] = X2 at *
      generalize (way true pa.tail).isSome = b2 at *
      generalize (way true qu.tail).getD [] = X3 at *
      generalize (way true qu.tail).isSome = b3 at *
      have HWD : Hid (∀ w, MaxLen w → _) := fun w ht => withoutDots_any X2 w ht hX2b (by omega)
      have hDl := AddrMath.dots_len X2
      have hDb := AddrMath.dots_lt hX2b
      generalize dots X2 = D at *
      obtain ⟨F1, hF1⟩ : ∃ F, F = U ++ colon := ⟨_, rfl⟩
      obtain ⟨F2, hF2⟩ : ∃ F, F = F1 ++ X1 := ⟨_, rfl⟩
      obtain ⟨F3, hF3⟩ : ∃ F, F = F2 ++ D := ⟨_, rfl⟩
      obtain ⟨Q, hQ⟩ : ∃ Q, Q = 63 :: X3 := ⟨_, rfl⟩
      obtain ⟨F4, hF4⟩ : ∃ F, F = F3 ++ Q := ⟨_, rfl⟩
      have hl1 : F1.length ≤ 8 := by rw [hF1]; simp [colon]; omega
      have hl2 : F2.length ≤ 10008 := by rw [hF2]; simp; omega
      have hl3 : F3.length ≤ 50000 := by rw [hF3]; simp; omega
      have hlQ : Q.length ≤ 30001 := by rw [hQ]; simp; omega
      have hl4 : F4.length ≤ 90000 := by rw [hF4]; simp; omega
      have hc1 : ∀ w, (Op.stringOp BinOp.add (strN U) ⟨#[58, 47, 47]⟩).run Tryz.prog w = .ok (.string (strN F1)) w := by rw [hF1]; exact sum_strN U colon (by simp [colon]; omega)
      have hc2 : ∀ w, (Op.stringOp BinOp.add (strN F1) (strN X1)).run Tryz.prog w = .ok (.string (strN F2)) w := by rw [hF2]; exact sum_strN F1 X1 (by omega)
      have hc3 : ∀ w, (Op.stringOp BinOp.add (strN F2) (strN D)).run Tryz.prog w = .ok (.string (strN F3)) w := by rw [hF3]; exact sum_strN F2 D (by omega)
      have hcq : ∀ w, (Op.stringOp BinOp.add ⟨#[63]⟩ (strN X3)).run Tryz.prog w = .ok (.string (strN Q)) w := by rw [hQ]; exact sum_strN [63] X3 (by simp; omega)
      have hc4 : ∀ w, (Op.stringOp BinOp.add (strN F3) (strN Q)).run Tryz.prog w = .ok (.string (strN F4)) w := by rw [hF4]; exact sum_strN F3 Q (by omega)
      have hz3 := strN_size F3
      have hz4 := strN_size F4
      have HP4 : Hid (parse s = finish (if (b1 && b2 && b3) = true then some (if qu = [] then F3 else F4) else none)) := by
        show _ = _
        rw [HP3.out, hF4, hQ, hF3, hF2, hF1]
        congr 2
        split
        · simp
        · simp
      clear hF1 hF2 hF3 hF4 hQ HP3 HP2
      obtain ⟨k1, k2, hk1, hk2, hkk⟩ : ∃ k1 k2 : Bool, ((strN U).toList == [104, 116, 116, 112]) = k1 ∧ ((strN U).toList == [104, 116, 116, 112, 115]) = k2 ∧ (k1 = true ∨ (k1 = false ∧ k2 = true)) := by
        refine ⟨_, _, hq1, hq2, ?_⟩
        rcases hS with h | h
        · left; exact decide_eq_true h
        · right; refine ⟨decide_eq_false (by rw [h]; decide), decide_eq_true h⟩
      clear hq1 hq2 hn1 hn2 hS
      have hqe : qu.isEmpty = decide (qu = []) := by cases qu <;> rfl
      rw [hqe] at HC2
      rcases hkk with rfl | ⟨rfl, rfl⟩
      all_goals
        go_enter Tryz.func24, Tryz.ntmps24
        go_wp2_with fail
        refine Calls.mono (HC1.out _ HT.out) ?_
        rintro e w1 ⟨rfl, hb1⟩
        have HB1 : Hid _ := hb1
        clear hb1
        go_wp2_with fail
        refine Calls.mono (HC2.out _ (MaxLen.later HT.out HB1.out)) ?_
        rintro e w2 ⟨rfl, hb2⟩
        have HB2 : Hid _ := HB1.out.trans (hb2.mono HB1.out.size)
        clear hb2
        go_wp2_with fail
        refine Calls.mono (HC3.out _ (MaxLen.later HT.out HB2.out)) ?_
        rintro e w3 ⟨rfl, hb3⟩
        have HB3 : Hid _ := HB2.out.trans (hb3.mono HB2.out.size)
        clear hb3
        go_wp2_with fail
        refine Calls.mono (HC4.out _ (MaxLen.later HT.out HB3.out)) ?_
        rintro e w4 ⟨rfl, hb4⟩
        have HB4 : Hid _ := HB3.out.trans (hb4.mono HB3.out.size)
        clear hb4
        go_wp2_with fail
        refine Calls.mono (HSm.out _) ?_
        rintro e w5 ⟨rfl, hb5⟩
        have HB5 : Hid _ := HB4.out.trans (hb5.mono HB4.out.size)
        clear hb5
        go_wp2_with fail
        refine Calls.mono (HSF.out _ (MaxLen.later HT.out HB5.out)) ?_
        rintro e w6 ⟨rfl, hb6⟩
        have HB6 : Hid _ := HB5.out.trans (hb6.mono HB5.out.size)
        clear hb6
        go_wp2_with fail
        refine Calls.mono (HW1.out _) ?_
        rintro e w7 ⟨rfl, hb7⟩
        have HB7 : Hid _ := HB6.out.trans (hb7.mono HB6.out.size)
        clear hb7
        go_wp2_with fail
        refine Calls.mono (HW2.out _) ?_
        rintro e w8 ⟨rfl, hb8⟩
        have HB8 : Hid _ := HB7.out.trans (hb8.mono HB7.out.size)
        clear hb8
        cases b1 with
        | false =>
          have HF : Hid (parseV s = .tuple #[.string (strN []), .int .i64 25]) := by show _ = _; rw [HV.out, HP4.out]; rfl
          go_wp2
          go_ret2
          rw [HF.out]
          exact ⟨rfl, HB8.out⟩
        | true =>
          cases b2 with
          | false =>
            have HF : Hid (parseV s = .tuple #[.string (strN []), .int .i64 25]) := by show _ = _; rw [HV.out, HP4.out]; rfl
            go_wp2
            go_ret2
            rw [HF.out]
            exact ⟨rfl, HB8.out⟩
          | true =>
            cases b3 with
            | false =>
              have HF : Hid (parseV s = .tuple #[.string (strN []), .int .i64 25]) := by show _ = _; rw [HV.out, HP4.out]; rfl
              go_wp2
              go_ret2
              rw [HF.out]
              exact ⟨rfl, HB8.out⟩
            | true =>
              by_cases hqn : qu = []
              · have HP5 : Hid (parse s = finish (some F3)) := by show _ = _; rw [HP4.out, if_pos hqn]; rfl
                rw [decide_eq_true hqn]
                clear HP4 hqn hqe hqu
                by_cases h200 : 200 < F3.length
                · have HF : Hid (parseV s = .tuple #[.string (strN []), .int .i64 23]) := by
                    show _ = _
                    have e : parse s = ([], 23) := by rw [HP5.out]; show (if F3.length ≤ 200 then (F3, 0) else ([], 23)) = _; rw [if_neg (by omega)]
                    rw [HV.out, e]; rfl
                  go_wp2_with fail
                  refine Calls.mono (HWD.out _ (MaxLen.later HT.out HB8.out)) ?_
                  rintro e w9 ⟨rfl, hb9⟩
                  have HB9 : Hid _ := HB8.out.trans (hb9.mono HB8.out.size)
                  clear hb9
                  go_wp2
                  go_ret2
                  rw [HF.out]
                  exact ⟨rfl, HB9.out⟩
                · have HF : Hid (parseV s = .tuple #[.string (strN F3), .int .i64 0]) := by
                    show _ = _
                    have e : parse s = (F3, 0) := by rw [HP5.out]; show (if F3.length ≤ 200 then (F3, 0) else ([], 23)) = _; rw [if_pos (by omega)]
                    rw [HV.out, e]; rfl
                  go_wp2_with fail
                  refine Calls.mono (HWD.out _ (MaxLen.later HT.out HB8.out)) ?_
                  rintro e w9 ⟨rfl, hb9⟩
                  have HB9 : Hid _ := HB8.out.trans (hb9.mono HB8.out.size)
                  clear hb9
                  go_wp2
                  go_ret2
                  rw [HF.out]
                  exact ⟨rfl, HB9.out⟩
              · have HP5 : Hid (parse s = finish (some F4)) := by show _ = _; rw [HP4.out, if_neg hqn]; rfl
                rw [decide_eq_false hqn]
                clear HP4 hqn hqe hqu
                by_cases h200 : 200 < F4.length
                · have HF : Hid (parseV s = .tuple #[.string (strN []), .int .i64 23]) := by
                    show _ = _
                    have e : parse s = ([], 23) := by rw [HP5.out]; show (if F4.length ≤ 200 then (F4, 0) else ([], 23)) = _; rw [if_neg (by omega)]
                    rw [HV.out, e]; rfl
                  go_wp2_with fail
                  refine Calls.mono (HWD.out _ (MaxLen.later HT.out HB8.out)) ?_
                  rintro e w9 ⟨rfl, hb9⟩
                  have HB9 : Hid _ := HB8.out.trans (hb9.mono HB8.out.size)
                  clear hb9
                  go_wp2
                  go_ret2
                  rw [HF.out]
                  exact ⟨rfl, HB9.out⟩
                · have HF : Hid (parseV s = .tuple #[.string (strN F4), .int .i64 0]) := by
                    show _ = _
                    have e : parse s = (F4, 0) := by rw [HP5.out]; show (if F4.length ≤ 200 then (F4, 0) else ([], 23)) = _; rw [if_pos (by omega)]
                    rw [HV.out, e]; rfl
                  go_wp2_with fail
                  refine Calls.mono (HWD.out _ (MaxLen.later HT.out HB8.out)) ?_
                  rintro e w9 ⟨rfl, hb9⟩
                  have HB9 : Hid _ := HB8.out.trans (hb9.mono HB8.out.size)
                  clear hb9
                  go_wp2
                  go_ret2
                  rw [HF.out]
                  exact ⟨rfl, HB9.out⟩
    · have HF : Hid (parseV s = .tuple #[.string (strN []), .int .i64 25]) := by
        show _ = _
        have e : parse s = ([], 25) := by rw [HP2.out, if_neg hS]
        rw [HV.out, e]; rfl
      rw [decide_eq_false (fun e => hS (.inl e))] at hn1 hq1
      rw [decide_eq_false (fun e => hS (.inr e))] at hn2 hq2
      clear hS HP2 HV
      go_enter Tryz.func24, Tryz.ntmps24
      go_wp2_with fail
      refine Calls.mono (HC1.out _ HT.out) ?_
      rintro e w1 ⟨rfl, hb1⟩
      have HB1 : Hid _ := hb1
      clear hb1
      go_wp2_with fail
      refine Calls.mono (HC2.out _ (MaxLen.later HT.out HB1.out)) ?_
      rintro e w2 ⟨rfl, hb2⟩
      have HB2 : Hid _ := HB1.out.trans (hb2.mono HB1.out.size)
      clear hb2
      go_wp2_with fail
      refine Calls.mono (HC3.out _ (MaxLen.later HT.out HB2.out)) ?_
      rintro e w3 ⟨rfl, hb3⟩
      have HB3 : Hid _ := HB2.out.trans (hb3.mono HB2.out.size)
      clear hb3
      go_wp2_with fail
      refine Calls.mono (HC4.out _ (MaxLen.later HT.out HB3.out)) ?_
      rintro e w4 ⟨rfl, hb4⟩
      have HB4 : Hid _ := HB3.out.trans (hb4.mono HB3.out.size)
      clear hb4
      go_wp2_with fail
      refine Calls.mono (HSm.out _) ?_
      rintro e w5 ⟨rfl, hb5⟩
      have HB5 : Hid _ := HB4.out.trans (hb5.mono HB4.out.size)
      clear hb5
      go_wp2
      go_ret2
      rw [HF.out]
      exact ⟨rfl, HB5.out⟩
end Go.Proofs.YteockpllnhjooaaGreatDoor
