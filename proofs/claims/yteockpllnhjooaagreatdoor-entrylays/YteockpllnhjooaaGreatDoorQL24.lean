/-
  FnRefAb, FnRefC.
-/
import Derived.Test.YteockpllnhjooaaGreatDoorQL17
import Derived.Test.YteockpllnhjooaaGreatDoorQL18
import Derived.Test.YteockpllnhjooaaGreatDoorQL01
namespace Go.Proofs.YteockpllnhjooaaGreatDoor
open Go.RowKit NumMath
open AddrMath (pre post is No Ends splitD labC isLab isHost isPort digit value)
set_option maxRecDepth 100000
set_option linter.unusedVariables false
set_option linter.unusedSimpArgs false

theorem head_at (l : List Nat) (a : Nat) (h : l[0]? = some a) : [45].isPrefixOf l = decide (a = 45) := by
  cases l with
  | nil => cases h
  | cons x t =>
    have : x = a := by simpa using h
    subst this
    rw [AddrMath.prefix1]
    by_cases e : x = 45
    · subst e; simp
    · simp [e]
theorem last_at (l : List Nat) (b : Nat) (h : l[l.length - 1]? = some b) : [45].isSuffixOf l = decide (b = 45) := by
  rw [AddrMath.suffix1, List.getLast?_eq_getElem?, h]
  by_cases e : b = 45
  · subst e; simp
  · simp [e]

set_option maxRecDepth 100000 in
set_option maxHeartbeats 4000000 in
theorem refLabel_any (l : List Nat) (w : World) (hb : ∀ c ∈ l, c < 256) (hm : l.length ≤ 1000000) :
    Calls Tryz.prog 86 #[.string (strN l)] w fun e w' => e = .returned (.bool (isLab l)) ∧ w' = w := by
  have hsz := strN_size l
  have HP : Hid _ := AddrMath.isLab_parts l
  go_enter Tryz.func86, Tryz.ntmps86
  go_wp2
  go_loop [3] (fun i => ∃ k : Nat, k ≤ l.length ∧ i = .int .i64 (k : Int) ∧ (l.take k).all labC = true) (fun i => l.length - (intOf i).toNat)
  case atStart => exact ⟨0, by omega, rfl, by simp⟩
  case round =>
    obtain ⟨k, hk, rfl, hall⟩ := hrel
    have HA : Hid _ := hall
    clear hall
    by_cases hlt : k < l.length
    · obtain ⟨c, hc⟩ : ∃ c, l[k]? = some c := ⟨l[k], List.getElem?_eq_getElem hlt⟩
      have hc256 := hb c (List.mem_of_getElem? hc)
      have hix : ∀ w, (Instr.index 9 (.string (strN l)) (.int .i64 (k : Int))).run Tryz.prog w = .ok (.int .u8 (c : Int)) w := by
        intro w
        have := index_strN l hb k hlt .i64 w
        rw [hc] at this; exact this
      cases hl : labC c with
      | true =>
        have HN : Hid _ := AddrMath.all_take_succ hc HA.out hl
        have hcs : (97 ≤ c ∧ c ≤ 122) ∨ (48 ≤ c ∧ c ≤ 57) ∨ c = 45 := by simp [labC] at hl; omega
        clear hc hl
        rcases hcs with ⟨h1, h2⟩ | ⟨h1, h2⟩ | h1
        · go_wp2
          go_round
          case rel => exact ⟨k + 1, by omega, by simp, HN.out⟩
          case measure => simp [intOf]; omega
        · go_wp2
          go_round
          case rel => exact ⟨k + 1, by omega, by simp, HN.out⟩
          case measure => simp [intOf]; omega
        · subst h1
          go_wp2
          go_round
          case rel => exact ⟨k + 1, by omega, by simp, HN.out⟩
          case measure => simp [intOf]; omega
      | false =>
        have HF : Hid (isLab l = false) := by show _ = _; rw [HP.out, AddrMath.all_false hc hl]; simp
        have h1 : ¬ (97 ≤ c ∧ c ≤ 122) ∧ ¬ (48 ≤ c ∧ c ≤ 57) ∧ c ≠ 45 := by simp [labC] at hl; omega
        have h2 : c < 45 ∨ (45 < c ∧ c < 48) ∨ (57 < c ∧ c < 97) ∨ 122 < c := by omega
        have hne : ((c : Int) == 45) = false := by simp; omega
        have hne2 : ¬ ((c : Int) = 45) := by omega
        clear hc hl h1
        rcases h2 with h2 | ⟨h2, h3⟩ | ⟨h2, h3⟩ | h2
        · go_wp2
          go_ret
          exact ⟨ret_bool HF.out.symm, rfl⟩
        · go_wp2
          go_ret
          exact ⟨ret_bool HF.out.symm, rfl⟩
        · have hd57 : decide ((c : Int) ≤ 57) = false := by simp; omega
          go_wp2
          go_ret
          exact ⟨ret_bool HF.out.symm, rfl⟩
        · have hd57 : decide ((c : Int) ≤ 57) = false := by simp; omega
          have hd122 : decide ((c : Int) ≤ 122) = false := by simp; omega
          go_wp2
          go_ret
          exact ⟨ret_bool HF.out.symm, rfl⟩
    · have hkl : k = l.length := by omega
      subst hkl
      have HA2 : Hid (l.all labC = true) := by have := HA.out; rwa [List.take_of_length_le (Nat.le_refl _)] at this
      clear HA
      by_cases h0 : l.length = 0
      · have HF : Hid (isLab l = false) := by show _ = _; rw [HP.out, decide_eq_false (show ¬ 1 ≤ l.length by omega)]; simp
        go_wp2
        go_ret
        exact ⟨ret_bool HF.out.symm, rfl⟩
      · by_cases h63 : 63 < l.length
        · have HF : Hid (isLab l = false) := by show _ = _; rw [HP.out, decide_eq_false (show ¬ l.length ≤ 63 by omega)]; simp
          go_wp2
          go_ret
          exact ⟨ret_bool HF.out.symm, rfl⟩
        · obtain ⟨a, ha⟩ : ∃ a, l[0]? = some a := ⟨l[0]'(by omega), List.getElem?_eq_getElem _⟩
          obtain ⟨b, hbb⟩ : ∃ b, l[l.length - 1]? = some b := ⟨l[l.length - 1]'(by omega), List.getElem?_eq_getElem _⟩
          have ha256 := hb a (List.mem_of_getElem? ha)
          have hb256 := hb b (List.mem_of_getElem? hbb)
          have hixa : ∀ w, (Instr.index 9 (.string (strN l)) (.int .i64 0)).run Tryz.prog w = .ok (.int .u8 (a : Int)) w := by
            intro w
            have := index_strN l hb 0 (by omega) .i64 w
            rw [ha] at this; exact this
          have hixb : ∀ w, (Instr.index 9 (.string (strN l)) (.int .i64 ((l.length : Int) - 1))).run Tryz.prog w = .ok (.int .u8 (b : Int)) w := by
            intro w
            have := index_strN l hb (l.length - 1) (by omega) .i64 w
            rw [hbb, show ((l.length - 1 : Nat) : Int) = (l.length : Int) - 1 by omega] at this; exact this
          have HF : Hid (isLab l = (!decide (a = 45) && !decide (b = 45))) := by
            show _ = _
            rw [HP.out, decide_eq_true (show 1 ≤ l.length by omega), decide_eq_true (show l.length ≤ 63 by omega), head_at l a ha, last_at l b hbb, HA2.out]
            simp
          clear ha hbb
          by_cases ha45 : a = 45
          · subst ha45
            go_wp2
            go_ret
            rw [HF.out]
            exact ⟨rfl, rfl⟩
          · have hna : ((a : Int) == 45) = false := by simp; omega
            have hna2 : ¬ ((a : Int) = 45) := by omega
            by_cases hb45 : b = 45
            · subst hb45
              go_wp2
              go_ret
              rw [HF.out]
              refine ⟨ret_bool ?_, rfl⟩
              simp
            · have hnb : ((b : Int) == 45) = false := by simp; omega
              have hnb2 : ¬ ((b : Int) = 45) := by omega
              have HF2 : Hid (isLab l = true) := by show _ = _; rw [HF.out]; simp [ha45, hb45]
              clear ha45 hb45
              go_wp2
              go_ret
              rw [HF2.out]
              refine ⟨ret_bool ?_, rfl⟩
              simp [bne, hna, hnb]
def mstr : Value → Nat
  | .string s => s.size
  | _ => 0

set_option maxRecDepth 100000 in
set_option maxHeartbeats 4000000 in
theorem refHost_any (l : List Nat) (w : World) (hb : ∀ c ∈ l, c < 256) (hm : l.length ≤ 1000000) :
    Calls Tryz.prog 58 #[.string (strN l)] w fun e w' => e = .returned (.bool (isHost l)) ∧ Below w.heap.size w w' := by
  have hsz := strN_size l
  have HP : Hid (isHost l = (decide (l.length ≤ 100) && (splitD 46 l).all isLab)) := rfl
  by_cases h100 : 100 < l.length
  · have HF : Hid (isHost l = false) := by show _ = _; rw [HP.out, decide_eq_false (show ¬ l.length ≤ 100 by omega)]; rfl
    go_enter Tryz.func58, Tryz.ntmps58
    go_wp2
    go_ret
    exact ⟨ret_bool HF.out.symm, Below.refl _ _⟩
  · have HF : Hid (isHost l = (splitD 46 l).all isLab) := by show _ = _; rw [HP.out, decide_eq_true (show l.length ≤ 100 by omega)]; rfl
    clear HP
    go_enter Tryz.func58, Tryz.ntmps58
    go_wp2
    go_loopw [0] (fun s wr => ∃ rest : List Nat, s = .string (strN rest) ∧ rest.length ≤ l.length ∧ (∀ c ∈ rest, c < 256) ∧ (splitD 46 l).all isLab = (splitD 46 rest).all isLab ∧ Below w.heap.size w wr) (fun s _ => mstr s)
    case atStart => exact ⟨l, rfl, Nat.le_refl _, hb, rfl, Below.refl _ _⟩
    case round =>
      obtain ⟨rest, rfl, hrl, hrb, hall, hbw⟩ := hrel
      have HA : Hid _ := hall
      have HB : Hid _ := hbw
      have hrsz := strN_size rest
      have HU : Hid (∀ w, Calls Tryz.prog 56 #[.string (strN rest), .string (strN [46])] w fun e w' => e = .returned (.int .i64 (((pre (is 46) rest).length : Nat) : Int)) ∧ Below w.heap.size w w') := by
        intro w
        have := upTo_any rest [46] w hrb (by decide) (by omega) (by decide)
        rw [anyOf_one] at this
        exact this
      have hpl := AddrMath.pre_len (is 46) rest
      have hpb : ∀ c ∈ pre (is 46) rest, c < 256 := fun c hc => hrb c (AddrMath.pre_mem hc)
      have hsl : ∀ w, (Instr.sliceAt 9 (.string (strN rest)) none (some (.int .i64 (((pre (is 46) rest).length : Nat) : Int))) none).run Tryz.prog w = .ok (.string (strN (pre (is 46) rest))) w := by
        intro w
        have := run_slice_strN0 (w := w) rest .i64 (pre (is 46) rest).length hpl
        rw [AddrMath.pre_take] at this
        exact this
      have HL : Hid (∀ w, _) := fun w => refLabel_any (pre (is 46) rest) w hpb (by omega)
      have HSP : Hid ((post (is 46) rest = [] ∧ splitD 46 rest = [pre (is 46) rest]) ∨ (∃ t, post (is 46) rest = 46 :: t ∧ splitD 46 rest = pre (is 46) rest :: splitD 46 t ∧ t.length < rest.length)) := splitD_pre 46 rest
      have hpo := AddrMath.post_len (is 46) rest
      have HPD : Hid _ := AddrMath.post_drop (is 46) rest
      have HPM : Hid (∀ x ∈ post (is 46) rest, x < 256) := fun x hx => hrb x (AddrMath.post_mem hx)
      obtain ⟨g, hg⟩ : ∃ g, g = pre (is 46) rest := ⟨_, rfl⟩
      obtain ⟨n, hn⟩ : ∃ n, n = g.length := ⟨_, rfl⟩
      rw [← hg] at HU hpl hpb hsl HL HSP hpo HPD
      rw [← hn] at HU hpl hsl hpo HPD
      clear hall hbw hg hn
      cases hlab : isLab g with
      | false =>
        rw [hlab] at HL
        have HFF : Hid (isHost l = false) := by
          show _ = _
          rw [HF.out, HA.out]
          rcases HSP.out with ⟨_, h⟩ | ⟨t, _, h, _⟩
          · rw [h]; simp [hlab]
          · rw [h]; simp [hlab]
        go_wp2_with (first | (go_at_call 56; refine Calls.mono (HU.out _) ?_; rintro e w2 ⟨rfl, hb2⟩; have HB2 : Hid _ := HB.out.trans (hb2.mono HB.out.size); clear hb2) | (go_at_call 86; refine Calls.mono (HL.out _) ?_; rintro e w3 ⟨rfl, h3w⟩; subst w3))
        go_ret
        exact ⟨ret_bool HFF.out.symm, HB2.out⟩
      | true =>
        rw [hlab] at HL
        rcases HSP.out with ⟨h1, h2⟩ | ⟨t, h1, h2, h3⟩
        · have hnl : n = rest.length := by rw [h1] at hpo; simpa using hpo
          have HFF : Hid (isHost l = true) := by show _ = _; rw [HF.out, HA.out, h2]; simp [hlab]
          have heq : ((n : Int) == (rest.length : Int)) = true := by simp; omega
          clear h1 h2 hpo HSP hnl
          go_wp2_with (first | (go_at_call 56; refine Calls.mono (HU.out _) ?_; rintro e w2 ⟨rfl, hb2⟩; have HB2 : Hid _ := HB.out.trans (hb2.mono HB.out.size); clear hb2) | (go_at_call 86; refine Calls.mono (HL.out _) ?_; rintro e w3 ⟨rfl, h3w⟩; subst w3))
          go_ret
          exact ⟨ret_bool HFF.out.symm, HB2.out⟩
        · have hnl : n < rest.length := by rw [h1] at hpo; simp at hpo; omega
          have heq : ((n : Int) == (rest.length : Int)) = false := by simp; omega
          have hsl2 : ∀ w, (Instr.sliceAt 9 (.string (strN rest)) (some (.int .i64 ((n : Int) + 1))) none none).run Tryz.prog w = .ok (.string (strN t)) w := by
            intro w
            have := run_slice_from (w := w) rest .i64 (n + 1) (by omega)
            rw [show ((n + 1 : Nat) : Int) = (n : Int) + 1 by omega, ← List.drop_drop, HPD.out, h1] at this
            exact this
          have HA2 : Hid ((splitD 46 l).all isLab = (splitD 46 t).all isLab) := by show _ = _; rw [HA.out, h2]; simp [hlab]
          have HTb : Hid (∀ c ∈ t, c < 256) := fun c hc => HPM.out c (by rw [h1]; simp [hc])
          have HTm : Hid (mstr (.string (strN t)) < mstr (.string (strN rest))) := by show (strN t).size < (strN rest).size; rw [strN_size, strN_size]; exact h3
          clear h1 h2 hpo HSP HPM HPD
          go_wp2_with (first | (go_at_call 56; refine Calls.mono (HU.out _) ?_; rintro e w2 ⟨rfl, hb2⟩; have HB2 : Hid _ := HB.out.trans (hb2.mono HB.out.size); clear hb2) | (go_at_call 86; refine Calls.mono (HL.out _) ?_; rintro e w3 ⟨rfl, h3w⟩; subst w3))
          exact ⟨⟨t, rfl, by omega, HTb.out, HA2.out, HB2.out⟩, HTm.out⟩

set_option maxRecDepth 100000 in
set_option maxHeartbeats 4000000 in
theorem refPort_any (l : List Nat) (w : World) (hb : ∀ c ∈ l, c < 256) (hm : l.length ≤ 1000000) :
    Calls Tryz.prog 59 #[.string (strN l)] w fun e w' => (∃ v : Nat, e = .returned (.tuple #[.int .i64 (v : Int), .bool (isPort l)]) ∧ (isPort l = true → v = value l)) ∧ w' = w := by
  have hsz := strN_size l
  have HP : Hid _ := AddrMath.isPort_parts l
  by_cases h0 : l.length = 0
  · have HF : Hid (isPort l = false) := by show _ = _; rw [HP.out, decide_eq_false (show ¬ 1 ≤ l.length by omega)]; simp
    go_enter Tryz.func59, Tryz.ntmps59
    go_wp2
    go_ret2
    rw [HF.out]
    exact ⟨⟨0, rfl, fun h => by cases h⟩, rfl⟩
  · by_cases h5 : 5 < l.length
    · have HF : Hid (isPort l = false) := by show _ = _; rw [HP.out, decide_eq_false (show ¬ l.length ≤ 5 by omega)]; simp
      go_enter Tryz.func59, Tryz.ntmps59
      go_wp2
      go_ret2
      rw [HF.out]
      exact ⟨⟨0, rfl, fun h => by cases h⟩, rfl⟩
    · obtain ⟨a, ha⟩ : ∃ a, l[0]? = some a := ⟨l[0]'(by omega), List.getElem?_eq_getElem _⟩
      have ha256 := hb a (List.mem_of_getElem? ha)
      have hixa : ∀ w, (Instr.index 9 (.string (strN l)) (.int .i64 0)).run Tryz.prog w = .ok (.int .u8 (a : Int)) w := by
        intro w
        have := index_strN l hb 0 (by omega) .i64 w
        rw [ha] at this; exact this
      have hpre : [48].isPrefixOf l = decide (a = 48) := by
        cases l with
        | nil => cases ha
        | cons x t =>
          have : x = a := by simpa using ha
          subst this
          rw [AddrMath.prefix1]
          by_cases e : x = 48
          · subst e; simp
          · simp [e]
      have HP2 : Hid (isPort l = (!decide (a = 48) && l.all digit && decide (value l ≤ 65535))) := by
        show _ = _
        rw [HP.out, decide_eq_true (show 1 ≤ l.length by omega), decide_eq_true (show l.length ≤ 5 by omega), hpre]
        simp
      clear ha hpre HP
      by_cases ha48 : a = 48
      · have HF : Hid (isPort l = false) := by show _ = _; rw [HP2.out, decide_eq_true ha48]; rfl
        subst ha48
        go_enter Tryz.func59, Tryz.ntmps59
        go_wp2
        go_ret2
        rw [HF.out]
        exact ⟨⟨0, rfl, fun h => by cases h⟩, rfl⟩
      · have hna : ((a : Int) == 48) = false := by simp; omega
        have HP3 : Hid (isPort l = (l.all digit && decide (value l ≤ 65535))) := by show _ = _; rw [HP2.out, decide_eq_false ha48]; rfl
        clear ha48 HP2
        go_enter Tryz.func59, Tryz.ntmps59
        go_wp2
        go_loop [4, 5] (fun v i => ∃ k q : Nat, k ≤ l.length ∧ i = .int .i64 (k : Int) ∧ v = .int .i64 (q : Int) ∧ q = value (l.take k) ∧ q < 10 ^ k ∧ (l.take k).all digit = true) (fun _ i => l.length - (intOf i).toNat)
        case atStart => exact ⟨0, 0, by omega, rfl, rfl, rfl, by decide, by simp⟩
        case round =>
          obtain ⟨k, q, hk, rfl, rfl, hq, hq10, hall⟩ := hrel
          have HA : Hid _ := hall
          have HQ : Hid _ := hq
          have HQT : Hid _ := hq10
          have hq5 : q < 100000 := by
            have : 10 ^ k ≤ 10 ^ 5 := Nat.pow_le_pow_right (by decide) (by omega)
            have e : (10 : Nat) ^ 5 = 100000 := by decide
            omega
          clear hall hq hq10
          by_cases hlt : k < l.length
          · obtain ⟨c, hc⟩ : ∃ c, l[k]? = some c := ⟨l[k], List.getElem?_eq_getElem hlt⟩
            have hc256 := hb c (List.mem_of_getElem? hc)
            have hix : ∀ w, (Instr.index 9 (.string (strN l)) (.int .i64 (k : Int))).run Tryz.prog w = .ok (.int .u8 (c : Int)) w := by
              intro w
              have := index_strN l hb k hlt .i64 w
              rw [hc] at this; exact this
            cases hd : digit c with
            | true =>
              have hdc := (AddrMath.digit_iff c).1 hd
              have HN : Hid _ := AddrMath.all_take_succ hc HA.out hd
              have HV : Hid _ := AddrMath.value_take hc
              clear hc hd
              go_wp2
              go_round
              case rel =>
                refine ⟨k + 1, q * 10 + (c - 48), by omega, by simp, ?_, ?_, ?_, HN.out⟩
                · congr 1; omega
                · rw [HV.out, ← HQ.out]
                · have := HQT.out
                  rw [Nat.pow_succ]; omega
              case measure => simp [intOf]; omega
            | false =>
              have HF : Hid (isPort l = false) := by show _ = _; rw [HP3.out, AddrMath.all_false hc hd]; rfl
              have hcs : c < 48 ∨ 57 < c := by
                have : ¬ (48 ≤ c ∧ c ≤ 57) := fun h => by rw [(AddrMath.digit_iff c).2 h] at hd; cases hd
                omega
              clear hc hd
              rcases hcs with h1 | h1
              all_goals
                go_wp2
                go_ret2
                rw [HF.out]
                exact ⟨⟨0, rfl, fun h => by cases h⟩, rfl⟩
          · have hkl : l.take k = l := List.take_of_length_le (by omega)
            have HFT : Hid (isPort l = decide (q ≤ 65535)) := by
              show _ = _
              have h1 := HA.out
              rw [hkl] at h1
              rw [HP3.out, h1, HQ.out, hkl]; rfl
            have HQ2 : Hid (q = value l) := by show _ = _; rw [HQ.out, hkl]
            clear hkl
            go_wp2
            go_ret2
            rw [HFT.out]
            refine ⟨⟨q, ?_, fun _ => HQ2.out⟩, rfl⟩
            have e : (decide ((q : Int) ≤ 65535)) = decide (q ≤ 65535) := by rw [Bool.eq_iff_iff]; simp; omega
            simp [e]
end Go.Proofs.YteockpllnhjooaaGreatDoor
namespace Go.Proofs.YteockpllnhjooaaGreatDoor
open Go.RowKit NumMath
open AddrMath (pre post is No Ends splitD dotsGo join dots)
set_option maxRecDepth 100000
set_option linter.unusedVariables false
set_option linter.unusedSimpArgs false

theorem Own.take9 {w : World} {base : Nat} {ao : Option Addr} {cap : Nat} {vs : List Value} (h : Own w base 9 (.slice ao vs.length cap) vs) (k : Nat) (hk : k ≤ vs.length) : Own w base 9 (.slice ao k cap) (vs.take k) := by
  have hl : (vs.take k).length = k := by rw [List.length_take]; omega
  unfold Own
  rw [hl]
  refine ⟨by simp [hl], ?_⟩
  rcases h.2 with ⟨h2, h3⟩ | ⟨g, cp, cur, h2, h3, h4, h5, h6, h7, h8⟩
  · left
    injection h2 with e1 e2 e3
    have : k = 0 := by omega
    subst this
    rw [e1, e3]
    exact ⟨rfl, rfl⟩
  · right
    injection h2 with e1 e2 e3
    subst e1
    subst e3
    refine ⟨g, cap, cur, rfl, h3, h4, by omega, h6, h7, ?_⟩
    rw [Nat.mul_one] at h8 ⊢
    rw [← h8, List.take_take, Nat.min_eq_left hk]
theorem sv_dropLast (st : List (List Nat)) : (sv st).take (st.length - 1) = sv st.dropLast := by
  unfold sv
  rw [← List.map_take, List.dropLast_eq_take]
theorem count_split (c : Nat) (l : List Nat) : (splitD c l).length ≤ l.length + 1 := by
  rw [AddrMath.splitD_count]; have := List.count_le_length (a := c) (l := l); omega
/-- What a round of the document's dots begins with. -/
def RDots (l : List Nat) (w : World) (s v : Value) (wr : World) : Prop :=
  ∃ (st : List (List Nat)) (rest : List Nat), s = .string (strN rest) ∧ (∀ c ∈ rest, c < 256) ∧ Own wr w.heap.size 9 v (sv st) ∧ Below w.heap.size w wr ∧ dotsGo [] (splitD 47 l) = dotsGo st (splitD 47 rest) ∧ st.length + rest.length + 1 ≤ l.length + 1

set_option maxRecDepth 100000 in
set_option maxHeartbeats 8000000 in
theorem refDots_any (l : List Nat) (w : World) (hb : ∀ c ∈ l, c < 256) (hm : l.length ≤ 100000) :
    Calls Tryz.prog 61 #[.string (strN (47 :: l))] w fun e w' => e = .returned (.string (strN (dots l))) ∧ Below w.heap.size w w' := by
  have hsl0 : ∀ w, (Instr.sliceAt 9 (.string (strN (47 :: l))) (some (.int .i64 1)) none none).run Tryz.prog w = .ok (.string (strN l)) w := fun w => run_slice_from (w := w) (47 :: l) .i64 1 (by simp)
  have HD : Hid (dots l = join (dotsGo [] (splitD 47 l))) := rfl
  have HJL : Hid ((dots l).length ≤ l.length + 1) := AddrMath.dots_len l
  have HJB : Hid (∀ c ∈ dots l, c < 256) := AddrMath.dots_lt hb
  go_enter Tryz.func61, Tryz.ntmps61
  go_wp2
  clear hsl0
  go_loopw [0, 3] (fun s v wr => RDots l w s v wr) (fun s _ _ => mstr s)
  case atStart => exact ⟨[], l, rfl, hb, Own.nil _ _ _, Below.refl _ _, rfl, by simp⟩
  case round =>
    obtain ⟨st, rest, rfl, hrb, hown, hbw, hdots, hlen⟩ := hrel
    have HO : Hid _ := hown
    have HB : Hid _ := hbw
    have HG0 : Hid _ := hdots
    have hrsz := strN_size rest
    have HU : Hid (∀ w, Calls Tryz.prog 56 #[.string (strN rest), .string (strN [47])] w fun e w' => e = .returned (.int .i64 (((pre (is 47) rest).length : Nat) : Int)) ∧ Below w.heap.size w w') := by
      intro w
      have := upTo_any rest [47] w hrb (by decide) (by omega) (by decide)
      rw [anyOf_one] at this
      exact this
    have hpl := AddrMath.pre_len (is 47) rest
    have hpb : ∀ c ∈ pre (is 47) rest, c < 256 := fun c hc => hrb c (AddrMath.pre_mem hc)
    have hsl : ∀ w, (Instr.sliceAt 9 (.string (strN rest)) none (some (.int .i64 (((pre (is 47) rest).length : Nat) : Int))) none).run Tryz.prog w = .ok (.string (strN (pre (is 47) rest))) w := by
      intro w
      have := run_slice_strN0 (w := w) rest .i64 (pre (is 47) rest).length hpl
      rw [AddrMath.pre_take] at this
      exact this
    have HSP : Hid ((post (is 47) rest = [] ∧ splitD 47 rest = [pre (is 47) rest]) ∨ (∃ t, post (is 47) rest = 47 :: t ∧ splitD 47 rest = pre (is 47) rest :: splitD 47 t ∧ t.length < rest.length)) := splitD_pre 47 rest
    have hpo := AddrMath.post_len (is 47) rest
    have HPD : Hid _ := AddrMath.post_drop (is 47) rest
    have HPM : Hid (∀ x ∈ post (is 47) rest, x < 256) := fun x hx => hrb x (AddrMath.post_mem hx)
    obtain ⟨g, hg⟩ : ∃ g, g = pre (is 47) rest := ⟨_, rfl⟩
    obtain ⟨n, hn⟩ : ∃ n, n = g.length := ⟨_, rfl⟩
    rw [← hg] at HU hpl hpb hsl HSP hpo HPD
    rw [← hn] at HU hpl hsl hpo HPD
    have hq2 := eq_lit [46, 46] [46, 46] rfl hpb (by decide)
    have hq1 := eq_lit [46] [46] rfl hpb (by decide)
    obtain ⟨ao, cap, hvv, hc1, hc2, hcn, hrow⟩ := Own.shape hown
    rw [sv_len] at hvv hc1
    subst hvv
    unfold maxLen at hc2
    clear hown hbw hdots hg hn
    have hkind : (g = [46, 46] ∧ ¬ g = [46]) ∨ (g = [46] ∧ ¬ g = [46, 46]) ∨ (¬ g = [46, 46] ∧ ¬ g = [46]) := by
      by_cases h1 : g = [46, 46]
      · left; exact ⟨h1, by rw [h1]; decide⟩
      · by_cases h2 : g = [46]
        · right; left; exact ⟨h2, h1⟩
        · right; right; exact ⟨h1, h2⟩
    rcases HSP.out with ⟨h1, h2⟩ | ⟨t, h1, h2, h3⟩
    · -- the last one
      have hnl : n = rest.length := by rw [h1] at hpo; simpa using hpo
      have heq : ((n : Int) == (rest.length : Int)) = true := by simp; omega
      rcases hkind with ⟨hk1, hk2⟩ | ⟨hk1, hk2⟩ | ⟨hk1, hk2⟩
      · rw [decide_eq_true hk1] at hq2
        rw [decide_eq_false hk2] at hq1
        by_cases hst0 : st = []
        · have hD0 : st.dropLast = st := by rw [hst0]; rfl
          have hl0 : st.length = 0 := by rw [hst0]; rfl
          have hz : ¬ ((0 : Int) < (st.length : Int)) := by omega
          have HL0 : Hid _ := hl0
          clear hst0 hl0
          obtain ⟨ST, hST⟩ : ∃ ST, ST = st ++ [[]] := ⟨_, rfl⟩
          have HST : Hid (dotsGo [] (splitD 47 l) = ST) := by show _ = _; rw [HG0.out, h2, dotsGo_one, if_neg (by rw [hk1]; decide), if_pos hk1, hD0, hST]
          clear h1 h2 HSP HPM HPD HG0 hk1 hk2 hpo hnl
          go_wp2_with (first | (go_at_call 56; refine Calls.mono (HU.out _) ?_; rintro e w2 ⟨rfl, hb2⟩; have HB2 : Hid _ := HB.out.trans (hb2.mono HB.out.size); have HO2 : Hid _ := Own.later HO.out hb2; have hs2 := HB2.out.size; clear hb2) | (at_builtin; refine wpList_app_str rfl _ (.tmp 45) rfl w.heap.size _ (sv (st)) (.string ⟨#[]⟩) rfl (Own.alloc HO2.out _) _ rfl (by simp) rfl (by rw [sv_len]; omega) (by simp; omega) ?_; intro v4 w4 hown4 hgrow4; have HO4 : Hid (Own w4 w.heap.size 9 v4 (sv (st ++ [[]]))) := (by show Own _ _ _ _ _; rw [sv_append]; exact hown4); have HB4 : Hid (Below w.heap.size w w4) := Own.below (Own.alloc HO2.out _) hgrow4 (HB2.out.alloc hs2 _) (by simp; omega); have hs4 := HB4.out.size; clear hown4 hgrow4))
          rw [← hST] at HO4
          clear hST
          obtain ⟨ao4, cap4, hv4, hc41, hc42, _, hrow4⟩ := Own.shape HO4.out
          have HSTl : Hid ((join ST).length ≤ l.length + 1) := by have := HJL.out; rw [HD.out, HST.out] at this; exact this
          have HSTb : Hid (∀ c ∈ join ST, c < 256) := by have := HJB.out; rw [HD.out, HST.out] at this; exact this
          have HSTn : Hid (ST.length ≤ l.length + 1) := by
            show _ ≤ _
            have h1 : ∀ S : List (List Nat), S.length ≤ (join S).length := by
              intro S
              induction S with
              | nil => simp
              | cons a b ih => rw [AddrMath.join_cons, List.length_cons, List.length_cons, List.length_append]; omega
            have := h1 ST
            have := HSTl.out
            omega
          rw [sv_len] at hv4 hc41
          obtain ⟨m4, hm4⟩ : ∃ m, m = ST.length := ⟨_, rfl⟩
          have HM4 : Hid _ := hm4
          have hm4l : m4 ≤ l.length + 1 := by rw [hm4]; exact HSTn.out
          rw [← hm4] at hv4 hc41
          have HR4 : Hid _ := hrow4
          unfold maxLen at hc42
          subst hv4
          clear hm4 hrow4 HO4
          go_wp2
          go_loop [7, 8] (fun out i => ∃ k : Nat, k ≤ m4 ∧ i = .int .i64 (k : Int) ∧ out = .string (strN (join (ST.take k)))) (fun _ i => m4 - (intOf i).toNat)
          case atStart => exact ⟨0, by omega, rfl, rfl⟩
          case round =>
            obtain ⟨k, hk, rfl, rfl⟩ := hrel
            by_cases hkm : k < m4
            · have hkl : k < ST.length := by rw [← HM4.out]; exact hkm
              obtain ⟨b, off, rfl, hcell⟩ := VRow.at HR4.out (k := k) (by rw [sv_len]; exact hkl)
              obtain ⟨t4, ht4⟩ : ∃ t, ST[k]? = some t := ⟨ST[k], List.getElem?_eq_getElem hkl⟩
              have hcx := hcell k _ (sv_get ht4)
              have HJk : Hid (join (ST.take (k + 1)) = (join (ST.take k) ++ [47]) ++ t4) := by
                show _ = _
                obtain ⟨h1, h2⟩ := List.getElem?_eq_some_iff.1 ht4
                rw [List.take_succ_eq_append_getElem hkl, h2, AddrMath.join_app, AddrMath.join_one]
                simp
              have hle : (join (ST.take (k + 1))).length ≤ l.length + 1 := by
                have h1 : join ST = join (ST.take (k + 1)) ++ join (ST.drop (k + 1)) := by rw [← AddrMath.join_app, List.take_append_drop]
                have h2 := HSTl.out
                rw [h1, List.length_append] at h2
                omega
              rw [HJk.out] at hle
              simp only [List.length_append, List.length_cons, List.length_nil] at hle
              have hcat1 : ∀ w, (Op.stringOp BinOp.add (strN (join (ST.take k))) ⟨#[47]⟩).run Tryz.prog w = .ok (.string (strN (join (ST.take k) ++ [47]))) w := sum_strN (join (ST.take k)) [47] (by simp; omega)
              have hcat2 := sum_strN (join (ST.take k) ++ [47]) t4 (by simp; omega)
              clear hcell ht4
              generalize join (ST.take k) = J1 at *
              obtain ⟨J2, hJ2⟩ : ∃ J, J = J1 ++ [47] := ⟨_, rfl⟩
              rw [← hJ2] at hcat1 hcat2
              obtain ⟨J3, hJ3⟩ : ∃ J, J = J2 ++ t4 := ⟨_, rfl⟩
              rw [← hJ3] at hcat2
              have HJ3 : Hid (join (ST.take (k + 1)) = J3) := by show _ = _; rw [HJk.out, hJ3, hJ2]
              clear hJ2 hJ3 HJk
              go_wp2
              go_round
              case rel => exact ⟨k + 1, by omega, by simp, by rw [HJ3.out]⟩
              case measure => simp [intOf]; omega
            · have e : k = m4 := by omega
              subst e
              have HFin : Hid (strN (dots l) = strN (join (ST.take k))) := by show _ = _; rw [HD.out, HST.out, List.take_of_length_le (by rw [← HM4.out]; omega)]
              clear hkm
              generalize strN (join (ST.take k)) = SS at *
              go_wp2
              go_ret
              rw [HFin.out]
              exact ⟨rfl, HB4.out⟩
        · obtain ⟨j, hj⟩ : ∃ j, st.length = j + 1 := ⟨st.length - 1, by have := List.length_pos_iff.2 hst0; omega⟩
          have HDL : Hid (∀ w', Own w' w.heap.size 9 (.slice ao st.length cap) (sv st) → Own w' w.heap.size 9 (.slice ao j cap) (sv st.dropLast)) := by
            intro w' h
            have h1 := Own.take9 (vs := sv st) (ao := ao) (cap := cap) (by rw [sv_len]; exact h) j (by rw [sv_len]; omega)
            have h2 := sv_dropLast st
            rw [hj, Nat.add_sub_cancel] at h2
            rw [h2] at h1
            exact h1
          have hdl : st.dropLast.length ≤ st.length := by rw [List.length_dropLast]; omega
          have hposI : (0 : Int) < (st.length : Int) := by omega
          have hjI : (st.length : Int) - 1 = (j : Int) := by omega
          have hjc : (j : Int) ≤ (cap : Int) := by omega
          have HJ0 : Hid _ := hj
          clear hj hst0
          obtain ⟨ST, hST⟩ : ∃ ST, ST = st.dropLast ++ [[]] := ⟨_, rfl⟩
          have HST : Hid (dotsGo [] (splitD 47 l) = ST) := by show _ = _; rw [HG0.out, h2, dotsGo_one, if_neg (by rw [hk1]; decide), if_pos hk1, hST]
          clear h1 h2 HSP HPM HPD HG0 hk1 hk2 hpo hnl
          go_wp2_with (first | (go_at_call 56; refine Calls.mono (HU.out _) ?_; rintro e w2 ⟨rfl, hb2⟩; have HB2 : Hid _ := HB.out.trans (hb2.mono HB.out.size); have HO2 : Hid _ := Own.later HO.out hb2; have hs2 := HB2.out.size; clear hb2; have HO5 : Hid _ := HDL.out _ HO2.out) | (at_builtin; refine wpList_app_str rfl _ (.tmp 45) rfl w.heap.size _ (sv (st.dropLast)) (.string ⟨#[]⟩) rfl (Own.alloc HO5.out _) _ rfl (by simp) rfl (by rw [sv_len]; omega) (by simp; omega) ?_; intro v4 w4 hown4 hgrow4; have HO4 : Hid (Own w4 w.heap.size 9 v4 (sv (st.dropLast ++ [[]]))) := (by show Own _ _ _ _ _; rw [sv_append]; exact hown4); have HB4 : Hid (Below w.heap.size w w4) := Own.below (Own.alloc HO5.out _) hgrow4 (HB2.out.alloc hs2 _) (by simp; omega); have hs4 := HB4.out.size; clear hown4 hgrow4))
          rw [← hST] at HO4
          clear hST
          obtain ⟨ao4, cap4, hv4, hc41, hc42, _, hrow4⟩ := Own.shape HO4.out
          have HSTl : Hid ((join ST).length ≤ l.length + 1) := by have := HJL.out; rw [HD.out, HST.out] at this; exact this
          have HSTb : Hid (∀ c ∈ join ST, c < 256) := by have := HJB.out; rw [HD.out, HST.out] at this; exact this
          have HSTn : Hid (ST.length ≤ l.length + 1) := by
            show _ ≤ _
            have h1 : ∀ S : List (List Nat), S.length ≤ (join S).length := by
              intro S
              induction S with
              | nil => simp
              | cons a b ih => rw [AddrMath.join_cons, List.length_cons, List.length_cons, List.length_append]; omega
            have := h1 ST
            have := HSTl.out
            omega
          rw [sv_len] at hv4 hc41
          obtain ⟨m4, hm4⟩ : ∃ m, m = ST.length := ⟨_, rfl⟩
          have HM4 : Hid _ := hm4
          have hm4l : m4 ≤ l.length + 1 := by rw [hm4]; exact HSTn.out
          rw [← hm4] at hv4 hc41
          have HR4 : Hid _ := hrow4
          unfold maxLen at hc42
          subst hv4
          clear hm4 hrow4 HO4
          go_wp2
          go_loop [7, 8] (fun out i => ∃ k : Nat, k ≤ m4 ∧ i = .int .i64 (k : Int) ∧ out = .string (strN (join (ST.take k)))) (fun _ i => m4 - (intOf i).toNat)
          case atStart => exact ⟨0, by omega, rfl, rfl⟩
          case round =>
            obtain ⟨k, hk, rfl, rfl⟩ := hrel
            by_cases hkm : k < m4
            · have hkl : k < ST.length := by rw [← HM4.out]; exact hkm
              obtain ⟨b, off, rfl, hcell⟩ := VRow.at HR4.out (k := k) (by rw [sv_len]; exact hkl)
              obtain ⟨t4, ht4⟩ : ∃ t, ST[k]? = some t := ⟨ST[k], List.getElem?_eq_getElem hkl⟩
              have hcx := hcell k _ (sv_get ht4)
              have HJk : Hid (join (ST.take (k + 1)) = (join (ST.take k) ++ [47]) ++ t4) := by
                show _ = _
                obtain ⟨h1, h2⟩ := List.getElem?_eq_some_iff.1 ht4
                rw [List.take_succ_eq_append_getElem hkl, h2, AddrMath.join_app, AddrMath.join_one]
                simp
              have hle : (join (ST.take (k + 1))).length ≤ l.length + 1 := by
                have h1 : join ST = join (ST.take (k + 1)) ++ join (ST.drop (k + 1)) := by rw [← AddrMath.join_app, List.take_append_drop]
                have h2 := HSTl.out
                rw [h1, List.length_append] at h2
                omega
              rw [HJk.out] at hle
              simp only [List.length_append, List.length_cons, List.length_nil] at hle
              have hcat1 : ∀ w, (Op.stringOp BinOp.add (strN (join (ST.take k))) ⟨#[47]⟩).run Tryz.prog w = .ok (.string (strN (join (ST.take k) ++ [47]))) w := sum_strN (join (ST.take k)) [47] (by simp; omega)
              have hcat2 := sum_strN (join (ST.take k) ++ [47]) t4 (by simp; omega)
              clear hcell ht4
              generalize join (ST.take k) = J1 at *
              obtain ⟨J2, hJ2⟩ : ∃ J, J = J1 ++ [47] := ⟨_, rfl⟩
              rw [← hJ2] at hcat1 hcat2
              obtain ⟨J3, hJ3⟩ : ∃ J, J = J2 ++ t4 := ⟨_, rfl⟩
              rw [← hJ3] at hcat2
              have HJ3 : Hid (join (ST.take (k + 1)) = J3) := by show _ = _; rw [HJk.out, hJ3, hJ2]
              clear hJ2 hJ3 HJk
              go_wp2
              go_round
              case rel => exact ⟨k + 1, by omega, by simp, by rw [HJ3.out]⟩
              case measure => simp [intOf]; omega
            · have e : k = m4 := by omega
              subst e
              have HFin : Hid (strN (dots l) = strN (join (ST.take k))) := by show _ = _; rw [HD.out, HST.out, List.take_of_length_le (by rw [← HM4.out]; omega)]
              clear hkm
              generalize strN (join (ST.take k)) = SS at *
              go_wp2
              go_ret
              rw [HFin.out]
              exact ⟨rfl, HB4.out⟩
      · rw [decide_eq_false hk2] at hq2
        rw [decide_eq_true hk1] at hq1
        obtain ⟨ST, hST⟩ : ∃ ST, ST = st ++ [[]] := ⟨_, rfl⟩
        have HST : Hid (dotsGo [] (splitD 47 l) = ST) := by show _ = _; rw [HG0.out, h2, dotsGo_one, if_pos hk1, hST]
        clear h1 h2 HSP HPM HPD HG0 hk1 hk2 hpo hnl
        go_wp2_with (first | (go_at_call 56; refine Calls.mono (HU.out _) ?_; rintro e w2 ⟨rfl, hb2⟩; have HB2 : Hid _ := HB.out.trans (hb2.mono HB.out.size); have HO2 : Hid _ := Own.later HO.out hb2; have hs2 := HB2.out.size; clear hb2) | (at_builtin; refine wpList_app_str rfl _ (.tmp 45) rfl w.heap.size _ (sv (st)) (.string ⟨#[]⟩) rfl (Own.alloc HO2.out _) _ rfl (by simp) rfl (by rw [sv_len]; omega) (by simp; omega) ?_; intro v4 w4 hown4 hgrow4; have HO4 : Hid (Own w4 w.heap.size 9 v4 (sv (st ++ [[]]))) := (by show Own _ _ _ _ _; rw [sv_append]; exact hown4); have HB4 : Hid (Below w.heap.size w w4) := Own.below (Own.alloc HO2.out _) hgrow4 (HB2.out.alloc hs2 _) (by simp; omega); have hs4 := HB4.out.size; clear hown4 hgrow4))
        rw [← hST] at HO4
        clear hST
        obtain ⟨ao4, cap4, hv4, hc41, hc42, _, hrow4⟩ := Own.shape HO4.out
        have HSTl : Hid ((join ST).length ≤ l.length + 1) := by have := HJL.out; rw [HD.out, HST.out] at this; exact this
        have HSTb : Hid (∀ c ∈ join ST, c < 256) := by have := HJB.out; rw [HD.out, HST.out] at this; exact this
        have HSTn : Hid (ST.length ≤ l.length + 1) := by
          show _ ≤ _
          have h1 : ∀ S : List (List Nat), S.length ≤ (join S).length := by
            intro S
            induction S with
            | nil => simp
            | cons a b ih => rw [AddrMath.join_cons, List.length_cons, List.length_cons, List.length_append]; omega
          have := h1 ST
          have := HSTl.out
          omega
        rw [sv_len] at hv4 hc41
        obtain ⟨m4, hm4⟩ : ∃ m, m = ST.length := ⟨_, rfl⟩
        have HM4 : Hid _ := hm4
        have hm4l : m4 ≤ l.length + 1 := by rw [hm4]; exact HSTn.out
        rw [← hm4] at hv4 hc41
        have HR4 : Hid _ := hrow4
        unfold maxLen at hc42
        subst hv4
        clear hm4 hrow4 HO4
        go_wp2
        go_loop [7, 8] (fun out i => ∃ k : Nat, k ≤ m4 ∧ i = .int .i64 (k : Int) ∧ out = .string (strN (join (ST.take k)))) (fun _ i => m4 - (intOf i).toNat)
        case atStart => exact ⟨0, by omega, rfl, rfl⟩
        case round =>
          obtain ⟨k, hk, rfl, rfl⟩ := hrel
          by_cases hkm : k < m4
          · have hkl : k < ST.length := by rw [← HM4.out]; exact hkm
            obtain ⟨b, off, rfl, hcell⟩ := VRow.at HR4.out (k := k) (by rw [sv_len]; exact hkl)
            obtain ⟨t4, ht4⟩ : ∃ t, ST[k]? = some t := ⟨ST[k], List.getElem?_eq_getElem hkl⟩
            have hcx := hcell k _ (sv_get ht4)
            have HJk : Hid (join (ST.take (k + 1)) = (join (ST.take k) ++ [47]) ++ t4) := by
              show _ = _
              obtain ⟨h1, h2⟩ := List.getElem?_eq_some_iff.1 ht4
              rw [List.take_succ_eq_append_getElem hkl, h2, AddrMath.join_app, AddrMath.join_one]
              simp
            have hle : (join (ST.take (k + 1))).length ≤ l.length + 1 := by
              have h1 : join ST = join (ST.take (k + 1)) ++ join (ST.drop (k + 1)) := by rw [← AddrMath.join_app, List.take_append_drop]
              have h2 := HSTl.out
              rw [h1, List.length_append] at h2
              omega
            rw [HJk.out] at hle
            simp only [List.length_append, List.length_cons, List.length_nil] at hle
            have hcat1 : ∀ w, (Op.stringOp BinOp.add (strN (join (ST.take k))) ⟨#[47]⟩).run Tryz.prog w = .ok (.string (strN (join (ST.take k) ++ [47]))) w := sum_strN (join (ST.take k)) [47] (by simp; omega)
            have hcat2 := sum_strN (join (ST.take k) ++ [47]) t4 (by simp; omega)
            clear hcell ht4
            generalize join (ST.take k) = J1 at *
            obtain ⟨J2, hJ2⟩ : ∃ J, J = J1 ++ [47] := ⟨_, rfl⟩
            rw [← hJ2] at hcat1 hcat2
            obtain ⟨J3, hJ3⟩ : ∃ J, J = J2 ++ t4 := ⟨_, rfl⟩
            rw [← hJ3] at hcat2
            have HJ3 : Hid (join (ST.take (k + 1)) = J3) := by show _ = _; rw [HJk.out, hJ3, hJ2]
            clear hJ2 hJ3 HJk
            go_wp2
            go_round
            case rel => exact ⟨k + 1, by omega, by simp, by rw [HJ3.out]⟩
            case measure => simp [intOf]; omega
          · have e : k = m4 := by omega
            subst e
            have HFin : Hid (strN (dots l) = strN (join (ST.take k))) := by show _ = _; rw [HD.out, HST.out, List.take_of_length_le (by rw [← HM4.out]; omega)]
            clear hkm
            generalize strN (join (ST.take k)) = SS at *
            go_wp2
            go_ret
            rw [HFin.out]
            exact ⟨rfl, HB4.out⟩
      · rw [decide_eq_false hk1] at hq2
        rw [decide_eq_false hk2] at hq1
        obtain ⟨ST, hST⟩ : ∃ ST, ST = st ++ [g] := ⟨_, rfl⟩
        have HST : Hid (dotsGo [] (splitD 47 l) = ST) := by show _ = _; rw [HG0.out, h2, dotsGo_one, if_neg hk2, if_neg hk1, hST]
        clear h1 h2 HSP HPM HPD HG0 hk1 hk2 hpo hnl
        go_wp2_with (first | (go_at_call 56; refine Calls.mono (HU.out _) ?_; rintro e w2 ⟨rfl, hb2⟩; have HB2 : Hid _ := HB.out.trans (hb2.mono HB.out.size); have HO2 : Hid _ := Own.later HO.out hb2; have hs2 := HB2.out.size; clear hb2) | (at_builtin; refine wpList_app_str rfl _ (.tmp 22) rfl w.heap.size _ (sv (st)) (.string (strN g)) rfl (Own.alloc HO2.out _) _ rfl (by simp) rfl (by rw [sv_len]; omega) (by simp; omega) ?_; intro v4 w4 hown4 hgrow4; have HO4 : Hid (Own w4 w.heap.size 9 v4 (sv (st ++ [g]))) := (by show Own _ _ _ _ _; rw [sv_append]; exact hown4); have HB4 : Hid (Below w.heap.size w w4) := Own.below (Own.alloc HO2.out _) hgrow4 (HB2.out.alloc hs2 _) (by simp; omega); have hs4 := HB4.out.size; clear hown4 hgrow4))
        rw [← hST] at HO4
        clear hST
        obtain ⟨ao4, cap4, hv4, hc41, hc42, _, hrow4⟩ := Own.shape HO4.out
        have HSTl : Hid ((join ST).length ≤ l.length + 1) := by have := HJL.out; rw [HD.out, HST.out] at this; exact this
        have HSTb : Hid (∀ c ∈ join ST, c < 256) := by have := HJB.out; rw [HD.out, HST.out] at this; exact this
        have HSTn : Hid (ST.length ≤ l.length + 1) := by
          show _ ≤ _
          have h1 : ∀ S : List (List Nat), S.length ≤ (join S).length := by
            intro S
            induction S with
            | nil => simp
            | cons a b ih => rw [AddrMath.join_cons, List.length_cons, List.length_cons, List.length_append]; omega
          have := h1 ST
          have := HSTl.out
          omega
        rw [sv_len] at hv4 hc41
        obtain ⟨m4, hm4⟩ : ∃ m, m = ST.length := ⟨_, rfl⟩
        have HM4 : Hid _ := hm4
        have hm4l : m4 ≤ l.length + 1 := by rw [hm4]; exact HSTn.out
        rw [← hm4] at hv4 hc41
        have HR4 : Hid _ := hrow4
        unfold maxLen at hc42
        subst hv4
        clear hm4 hrow4 HO4
        go_wp2
        go_loop [7, 8] (fun out i => ∃ k : Nat, k ≤ m4 ∧ i = .int .i64 (k : Int) ∧ out = .string (strN (join (ST.take k)))) (fun _ i => m4 - (intOf i).toNat)
        case atStart => exact ⟨0, by omega, rfl, rfl⟩
        case round =>
          obtain ⟨k, hk, rfl, rfl⟩ := hrel
          by_cases hkm : k < m4
          · have hkl : k < ST.length := by rw [← HM4.out]; exact hkm
            obtain ⟨b, off, rfl, hcell⟩ := VRow.at HR4.out (k := k) (by rw [sv_len]; exact hkl)
            obtain ⟨t4, ht4⟩ : ∃ t, ST[k]? = some t := ⟨ST[k], List.getElem?_eq_getElem hkl⟩
            have hcx := hcell k _ (sv_get ht4)
            have HJk : Hid (join (ST.take (k + 1)) = (join (ST.take k) ++ [47]) ++ t4) := by
              show _ = _
              obtain ⟨h1, h2⟩ := List.getElem?_eq_some_iff.1 ht4
              rw [List.take_succ_eq_append_getElem hkl, h2, AddrMath.join_app, AddrMath.join_one]
              simp
            have hle : (join (ST.take (k + 1))).length ≤ l.length + 1 := by
              have h1 : join ST = join (ST.take (k + 1)) ++ join (ST.drop (k + 1)) := by rw [← AddrMath.join_app, List.take_append_drop]
              have h2 := HSTl.out
              rw [h1, List.length_append] at h2
              omega
            rw [HJk.out] at hle
            simp only [List.length_append, List.length_cons, List.length_nil] at hle
            have hcat1 : ∀ w, (Op.stringOp BinOp.add (strN (join (ST.take k))) ⟨#[47]⟩).run Tryz.prog w = .ok (.string (strN (join (ST.take k) ++ [47]))) w := sum_strN (join (ST.take k)) [47] (by simp; omega)
            have hcat2 := sum_strN (join (ST.take k) ++ [47]) t4 (by simp; omega)
            clear hcell ht4
            generalize join (ST.take k) = J1 at *
            obtain ⟨J2, hJ2⟩ : ∃ J, J = J1 ++ [47] := ⟨_, rfl⟩
            rw [← hJ2] at hcat1 hcat2
            obtain ⟨J3, hJ3⟩ : ∃ J, J = J2 ++ t4 := ⟨_, rfl⟩
            rw [← hJ3] at hcat2
            have HJ3 : Hid (join (ST.take (k + 1)) = J3) := by show _ = _; rw [HJk.out, hJ3, hJ2]
            clear hJ2 hJ3 HJk
            go_wp2
            go_round
            case rel => exact ⟨k + 1, by omega, by simp, by rw [HJ3.out]⟩
            case measure => simp [intOf]; omega
          · have e : k = m4 := by omega
            subst e
            have HFin : Hid (strN (dots l) = strN (join (ST.take k))) := by show _ = _; rw [HD.out, HST.out, List.take_of_length_le (by rw [← HM4.out]; omega)]
            clear hkm
            generalize strN (join (ST.take k)) = SS at *
            go_wp2
            go_ret
            rw [HFin.out]
            exact ⟨rfl, HB4.out⟩
    · have hnl : n < rest.length := by rw [h1] at hpo; simp at hpo; omega
      have heq : ((n : Int) == (rest.length : Int)) = false := by simp; omega
      have hsl2 : ∀ w, (Instr.sliceAt 9 (.string (strN rest)) (some (.int .i64 ((n : Int) + 1))) none none).run Tryz.prog w = .ok (.string (strN t)) w := by
        intro w
        have := run_slice_from (w := w) rest .i64 (n + 1) (by omega)
        rw [show ((n + 1 : Nat) : Int) = (n : Int) + 1 by omega, ← List.drop_drop, HPD.out, h1] at this
        exact this
      have HTb : Hid (∀ c ∈ t, c < 256) := fun c hc => HPM.out c (by rw [h1]; simp [hc])
      have HTm : Hid (mstr (.string (strN t)) < mstr (.string (strN rest))) := by show (strN t).size < (strN rest).size; rw [strN_size, strN_size]; exact h3
      rcases hkind with ⟨hk1, hk2⟩ | ⟨hk1, hk2⟩ | ⟨hk1, hk2⟩
      · rw [decide_eq_true hk1] at hq2
        rw [decide_eq_false hk2] at hq1
        by_cases hst0 : st = []
        · have hD0 : st.dropLast = st := by rw [hst0]; rfl
          have hl0 : st.length = 0 := by rw [hst0]; rfl
          have hz : ¬ ((0 : Int) < (st.length : Int)) := by omega
          have HL0 : Hid _ := hl0
          clear hst0 hl0
          have HA2 : Hid (dotsGo [] (splitD 47 l) = dotsGo (st) (splitD 47 t)) := by show _ = _; rw [HG0.out, h2, dotsGo_more, if_neg (by rw [hk1]; decide), if_pos hk1, hD0]
          have HLn : Hid ((st).length + t.length + 1 ≤ l.length + 1) := by show _ ≤ _; first | omega | (simp only [List.length_append, List.length_cons, List.length_nil]; omega)
          clear h1 h2 HSP HPM HPD HG0 hk1 hk2 hpo
          go_wp2_with (first | (go_at_call 56; refine Calls.mono (HU.out _) ?_; rintro e w2 ⟨rfl, hb2⟩; have HB2 : Hid _ := HB.out.trans (hb2.mono HB.out.size); have HO2 : Hid _ := Own.later HO.out hb2; have hs2 := HB2.out.size; clear hb2))
          exact ⟨⟨st, t, rfl, HTb.out, HO2.out, HB2.out, HA2.out, HLn.out⟩, HTm.out⟩
        · obtain ⟨j, hj⟩ : ∃ j, st.length = j + 1 := ⟨st.length - 1, by have := List.length_pos_iff.2 hst0; omega⟩
          have HDL : Hid (∀ w', Own w' w.heap.size 9 (.slice ao st.length cap) (sv st) → Own w' w.heap.size 9 (.slice ao j cap) (sv st.dropLast)) := by
            intro w' h
            have h1 := Own.take9 (vs := sv st) (ao := ao) (cap := cap) (by rw [sv_len]; exact h) j (by rw [sv_len]; omega)
            have h2 := sv_dropLast st
            rw [hj, Nat.add_sub_cancel] at h2
            rw [h2] at h1
            exact h1
          have hdl : st.dropLast.length ≤ st.length := by rw [List.length_dropLast]; omega
          have hposI : (0 : Int) < (st.length : Int) := by omega
          have hjI : (st.length : Int) - 1 = (j : Int) := by omega
          have hjc : (j : Int) ≤ (cap : Int) := by omega
          have HJ0 : Hid _ := hj
          clear hj hst0
          have HA2 : Hid (dotsGo [] (splitD 47 l) = dotsGo (st.dropLast) (splitD 47 t)) := by show _ = _; rw [HG0.out, h2, dotsGo_more, if_neg (by rw [hk1]; decide), if_pos hk1]
          have HLn : Hid ((st.dropLast).length + t.length + 1 ≤ l.length + 1) := by show _ ≤ _; first | omega | (simp only [List.length_append, List.length_cons, List.length_nil]; omega)
          clear h1 h2 HSP HPM HPD HG0 hk1 hk2 hpo
          go_wp2_with (first | (go_at_call 56; refine Calls.mono (HU.out _) ?_; rintro e w2 ⟨rfl, hb2⟩; have HB2 : Hid _ := HB.out.trans (hb2.mono HB.out.size); have HO2 : Hid _ := Own.later HO.out hb2; have hs2 := HB2.out.size; clear hb2; have HO5 : Hid _ := HDL.out _ HO2.out))
          exact ⟨⟨st.dropLast, t, rfl, HTb.out, HO5.out, HB2.out, HA2.out, HLn.out⟩, HTm.out⟩
      · rw [decide_eq_false hk2] at hq2
        rw [decide_eq_true hk1] at hq1
        have HA2 : Hid (dotsGo [] (splitD 47 l) = dotsGo (st) (splitD 47 t)) := by show _ = _; rw [HG0.out, h2, dotsGo_more, if_pos hk1]
        have HLn : Hid ((st).length + t.length + 1 ≤ l.length + 1) := by show _ ≤ _; first | omega | (simp only [List.length_append, List.length_cons, List.length_nil]; omega)
        clear h1 h2 HSP HPM HPD HG0 hk1 hk2 hpo
        go_wp2_with (first | (go_at_call 56; refine Calls.mono (HU.out _) ?_; rintro e w2 ⟨rfl, hb2⟩; have HB2 : Hid _ := HB.out.trans (hb2.mono HB.out.size); have HO2 : Hid _ := Own.later HO.out hb2; have hs2 := HB2.out.size; clear hb2))
        exact ⟨⟨st, t, rfl, HTb.out, HO2.out, HB2.out, HA2.out, HLn.out⟩, HTm.out⟩
      · rw [decide_eq_false hk1] at hq2
        rw [decide_eq_false hk2] at hq1
        have HA2 : Hid (dotsGo [] (splitD 47 l) = dotsGo (st ++ [g]) (splitD 47 t)) := by show _ = _; rw [HG0.out, h2, dotsGo_more, if_neg hk2, if_neg hk1]
        have HLn : Hid ((st ++ [g]).length + t.length + 1 ≤ l.length + 1) := by show _ ≤ _; first | omega | (simp only [List.length_append, List.length_cons, List.length_nil]; omega)
        clear h1 h2 HSP HPM HPD HG0 hk1 hk2 hpo
        go_wp2_with (first | (go_at_call 56; refine Calls.mono (HU.out _) ?_; rintro e w2 ⟨rfl, hb2⟩; have HB2 : Hid _ := HB.out.trans (hb2.mono HB.out.size); have HO2 : Hid _ := Own.later HO.out hb2; have hs2 := HB2.out.size; clear hb2) | (at_builtin; refine wpList_app_str rfl _ (.tmp 22) rfl w.heap.size _ (sv (st)) (.string (strN g)) rfl (Own.alloc HO2.out _) _ rfl (by simp) rfl (by rw [sv_len]; omega) (by simp; omega) ?_; intro v4 w4 hown4 hgrow4; have HO4 : Hid (Own w4 w.heap.size 9 v4 (sv (st ++ [g]))) := (by show Own _ _ _ _ _; rw [sv_append]; exact hown4); have HB4 : Hid (Below w.heap.size w w4) := Own.below (Own.alloc HO2.out _) hgrow4 (HB2.out.alloc hs2 _) (by simp; omega); have hs4 := HB4.out.size; clear hown4 hgrow4))
        exact ⟨⟨st ++ [g], t, rfl, HTb.out, HO4.out, HB4.out, HA2.out, HLn.out⟩, HTm.out⟩
end Go.Proofs.YteockpllnhjooaaGreatDoor
