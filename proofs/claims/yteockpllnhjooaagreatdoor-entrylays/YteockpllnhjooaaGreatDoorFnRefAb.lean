/-
  Walks of newsreelref4.label, host, port.
-/
import Derived.Test.YteockpllnhjooaaGreatDoorFnRefAa
import Derived.Test.YteockpllnhjooaaGreatDoorFnAddrG
import Derived.Test.YteockpllnhjooaaGreatDoorAddrMore
namespace Go.Proofs.YteockpllnhjooaaGreatDoor
open Go.RowKit NumMath
open AddrMath (pre post is No Ends splitD labC isLab isHost isPort digit value)
set_option maxRecDepth 100000
set_option linter.unusedVariables false
set_option linter.unusedSimpArgs false

theorem head_at (l : List Nat) (a : Nat) (h : l[0]? = some a) : [45].isPrefixOf l = decide (a = 45) := by
  cases l with
  | nil => cases h
  | cons x t =>
    have : x = a := by simpa using h
    subst this
    rw [AddrMath.prefix1]
    by_cases e : x = 45
    · subst e; simp
    · simp [e]
theorem last_at (l : List Nat) (b : Nat) (h : l[l.length - 1]? = some b) : [45].isSuffixOf l = decide (b = 45) := by
  rw [AddrMath.suffix1, List.getLast?_eq_getElem?, h]
  by_cases e : b = 45
  · subst e; simp
  · simp [e]

set_option maxRecDepth 100000 in
set_option maxHeartbeats 4000000 in
theorem refLabel_any (l : List Nat) (w : World) (hb : ∀ c ∈ l, c < 256) (hm : l.length ≤ 1000000) :
    Calls Tryz.prog 86 #[.string (strN l)] w fun e w' => e = .returned (.bool (isLab l)) ∧ w' = w := by
  have hsz := strN_size l
  have HP : Hid _ := AddrMath.isLab_parts l
  go_enter Tryz.func86, Tryz.ntmps86
  go_wp2
  go_loop [3] (fun i => ∃ k : Nat, k ≤ l.length ∧ i = .int .i64 (k : Int) ∧ (l.take k).all labC = true) (fun i => l.length - (intOf i).toNat)
  case atStart => exact ⟨0, by omega, rfl, by simp⟩
  case round =>
    obtain ⟨k, hk, rfl, hall⟩ := hrel
    have HA : Hid _ := hall
    clear hall
    by_cases hlt : k < l.length
    · obtain ⟨c, hc⟩ : ∃ c, l[k]? = some c := ⟨l[k], List.getElem?_eq_getElem hlt⟩
      have hc256 := hb c (List.mem_of_getElem? hc)
      have hix : ∀ w, (Instr.index 9 (.string (strN l)) (.int .i64 (k : Int))).run Tryz.prog w = .ok (.int .u8 (c : Int)) w := by
        intro w
        have := index_strN l hb k hlt .i64 w
        rw [hc] at this; exact this
      cases hl : labC c with
      | true =>
        have HN : Hid _ := AddrMath.all_take_succ hc HA.out hl
        have hcs : (97 ≤ c ∧ c ≤ 122) ∨ (48 ≤ c ∧ c ≤ 57) ∨ c = 45 := by simp [labC] at hl; omega
        clear hc hl
        rcases hcs with ⟨h1, h2⟩ | ⟨h1, h2⟩ | h1
        · go_wp2
          go_round
          case rel => exact ⟨k + 1, by omega, by simp, HN.out⟩
          case measure => simp [intOf]; omega
        · go_wp2
          go_round
          case rel => exact ⟨k + 1, by omega, by simp, HN.out⟩
          case measure => simp [intOf]; omega
        · subst h1
          go_wp2
          go_round
          case rel => exact ⟨k + 1, by omega, by simp, HN.out⟩
          case measure => simp [intOf]; omega
      | false =>
        have HF : Hid (isLab l = false) := by show _ = _; rw [HP.out, AddrMath.all_false hc hl]; simp
        have h1 : ¬ (97 ≤ c ∧ c ≤ 122) ∧ ¬ (48 ≤ c ∧ c ≤ 57) ∧ c ≠ 45 := by simp [labC] at hl; omega
        have h2 : c < 45 ∨ (45 < c ∧ c < 48) ∨ (57 < c ∧ c < 97) ∨ 122 < c := by omega
        have hne : ((c : Int) == 45) = false := by simp; omega
        have hne2 : ¬ ((c : Int) = 45) := by omega
        clear hc hl h1
        rcases h2 with h2 | ⟨h2, h3⟩ | ⟨h2, h3⟩ | h2
        · go_wp2
          go_ret
          exact ⟨ret_bool HF.out.symm, rfl⟩
        · go_wp2
          go_ret
          exact ⟨ret_bool HF.out.symm, rfl⟩
        · have hd57 : decide ((c : Int) ≤ 57) = false := by simp; omega
          go_wp2
          go_ret
          exact ⟨ret_bool HF.out.symm, rfl⟩
        · have hd57 : decide ((c : Int) ≤ 57) = false := by simp; omega
          have hd122 : decide ((c : Int) ≤ 122) = false := by simp; omega
          go_wp2
          go_ret
          exact ⟨ret_bool HF.out.symm, rfl⟩
    · have hkl : k = l.length := by omega
      subst hkl
      have HA2 : Hid (l.all labC = true) := by have := HA.out; rwa [List.take_of_length_le (Nat.le_refl _)] at this
      clear HA
      by_cases h0 : l.length = 0
      · have HF : Hid (isLab l = false) := by show _ = _; rw [HP.out, decide_eq_false (show ¬ 1 ≤ l.length by omega)]; simp
        go_wp2
        go_ret
        exact ⟨ret_bool HF.out.symm, rfl⟩
      · by_cases h63 : 63 < l.length
        · have HF : Hid (isLab l = false) := by show _ = _; rw [HP.out, decide_eq_false (show ¬ l.length ≤ 63 by omega)]; simp
          go_wp2
          go_ret
          exact ⟨ret_bool HF.out.symm, rfl⟩
        · obtain ⟨a, ha⟩ : ∃ a, l[0]? = some a := ⟨l[0]'(by omega), List.getElem?_eq_getElem _⟩
          obtain ⟨b, hbb⟩ : ∃ b, l[l.length - 1]? = some b := ⟨l[l.length - 1]'(by omega), List.getElem?_eq_getElem _⟩
          have ha256 := hb a (List.mem_of_getElem? ha)
          have hb256 := hb b (List.mem_of_getElem? hbb)
          have hixa : ∀ w, (Instr.index 9 (.string (strN l)) (.int .i64 0)).run Tryz.prog w = .ok (.int .u8 (a : Int)) w := by
            intro w
            have := index_strN l hb 0 (by omega) .i64 w
            rw [ha] at this; exact this
          have hixb : ∀ w, (Instr.index 9 (.string (strN l)) (.int .i64 ((l.length : Int) - 1))).run Tryz.prog w = .ok (.int .u8 (b : Int)) w := by
            intro w
            have := index_strN l hb (l.length - 1) (by omega) .i64 w
            rw [hbb, show ((l.length - 1 : Nat) : Int) = (l.length : Int) - 1 by omega] at this; exact this
          have HF : Hid (isLab l = (!decide (a = 45) && !decide (b = 45))) := by
            show _ = _
            rw [HP.out, decide_eq_true (show 1 ≤ l.length by omega), decide_eq_true (show l.length ≤ 63 by omega), head_at l a ha, last_at l b hbb, HA2.out]
            simp
          clear ha hbb
          by_cases ha45 : a = 45
          · subst ha45
            go_wp2
            go_ret
            rw [HF.out]
            exact ⟨rfl, rfl⟩
          · have hna : ((a : Int) == 45) = false := by simp; omega
            have hna2 : ¬ ((a : Int) = 45) := by omega
            by_cases hb45 : b = 45
            · subst hb45
              go_wp2
              go_ret
              rw [HF.out]
              refine ⟨ret_bool ?_, rfl⟩
              simp
            · have hnb : ((b : Int) == 45) = false := by simp; omega
              have hnb2 : ¬ ((b : Int) = 45) := by omega
              have HF2 : Hid (isLab l = true) := by show _ = _; rw [HF.out]; simp [ha45, hb45]
              clear ha45 hb45
              go_wp2
              go_ret
              rw [HF2.out]
              refine ⟨ret_bool ?_, rfl⟩
              simp [bne, hna, hnb]
def mstr : Value → Nat
  | .string s => s.size
  | _ => 0

set_option maxRecDepth 100000 in
set_option maxHeartbeats 4000000 in
theorem refHost_any (l : List Nat) (w : World) (hb : ∀ c ∈ l, c < 256) (hm : l.length ≤ 1000000) :
    Calls Tryz.prog 58 #[.string (strN l)] w fun e w' => e = .returned (.bool (isHost l)) ∧ Below w.heap.size w w' := by
  have hsz := strN_size l
  have HP : Hid (isHost l = (decide (l.length ≤ 100) && (splitD 46 l).all isLab)) := rfl
  by_cases h100 : 100 < l.length
  · have HF : Hid (isHost l = false) := by show _ = _; rw [HP.out, decide_eq_false (show ¬ l.length ≤ 100 by omega)]; rfl
    go_enter Tryz.func58, Tryz.ntmps58
    go_wp2
    go_ret
    exact ⟨ret_bool HF.out.symm, Below.refl _ _⟩
  · have HF : Hid (isHost l = (splitD 46 l).all isLab) := by show _ = _; rw [HP.out, decide_eq_true (show l.length ≤ 100 by omega)]; rfl
    clear HP
    go_enter Tryz.func58, Tryz.ntmps58
    go_wp2
    go_loopw [0] (fun s wr => ∃ rest : List Nat, s = .string (strN rest) ∧ rest.length ≤ l.length ∧ (∀ c ∈ rest, c < 256) ∧ (splitD 46 l).all isLab = (splitD 46 rest).all isLab ∧ Below w.heap.size w wr) (fun s _ => mstr s)
    case atStart => exact ⟨l, rfl, Nat.le_refl _, hb, rfl, Below.refl _ _⟩
    case round =>
      obtain ⟨rest, rfl, hrl, hrb, hall, hbw⟩ := hrel
      have HA : Hid _ := hall
      have HB : Hid _ := hbw
      have hrsz := strN_size rest
      have HU : Hid (∀ w, Calls Tryz.prog 56 #[.string (strN rest), .string (strN [46])] w fun e w' => e = .returned (.int .i64 (((pre (is 46) rest).length : Nat) : Int)) ∧ Below w.heap.size w w') := by
        intro w
        have := upTo_any rest [46] w hrb (by decide) (by omega) (by decide)
        rw [anyOf_one] at this
        exact this
      have hpl := AddrMath.pre_len (is 46) rest
      have hpb : ∀ c ∈ pre (is 46) rest, c < 256 := fun c hc => hrb c (AddrMath.pre_mem hc)
      have hsl : ∀ w, (Instr.sliceAt 9 (.string (strN rest)) none (some (.int .i64 (((pre (is 46) rest).length : Nat) : Int))) none).run Tryz.prog w = .ok (.string (strN (pre (is 46) rest))) w := by
        intro w
        have := run_slice_strN0 (w := w) rest .i64 (pre (is 46) rest).length hpl
        rw [AddrMath.pre_take] at this
        exact this
      have HL : Hid (∀ w, _) := fun w => refLabel_any (pre (is 46) rest) w hpb (by omega)
      have HSP : Hid ((post (is 46) rest = [] ∧ splitD 46 rest = [pre (is 46) rest]) ∨ (∃ t, post (is 46) rest = 46 :: t ∧ splitD 46 rest = pre (is 46) rest :: splitD 46 t ∧ t.length < rest.length)) := splitD_pre 46 rest
      have hpo := AddrMath.post_len (is 46) rest
      have HPD : Hid _ := AddrMath.post_drop (is 46) rest
      have HPM : Hid (∀ x ∈ post (is 46) rest, x < 256) := fun x hx => hrb x (AddrMath.post_mem hx)
      obtain ⟨g, hg⟩ : ∃ g, g = pre (is 46) rest := ⟨_, rfl⟩
      obtain ⟨n, hn⟩ : ∃ n, n = g.length := ⟨_, rfl⟩
      rw [← hg] at HU hpl hpb hsl HL HSP hpo HPD
      rw [← hn] at HU hpl hsl hpo HPD
      clear hall hbw hg hn
      cases hlab : isLab g with
      | false =>
        rw [hlab] at HL
        have HFF : Hid (isHost l = false) := by
          show _ = _
          rw [HF.out, HA.out]
          rcases HSP.out with ⟨_, h⟩ | ⟨t, _, h, _⟩
          · rw [h]; simp [hlab]
          · rw [h]; simp [hlab]
        go_wp2_with (first | (go_at_call 56; refine Calls.mono (HU.out _) ?_; rintro e w2 ⟨rfl, hb2⟩; have HB2 : Hid _ := HB.out.trans (hb2.mono HB.out.size); clear hb2) | (go_at_call 86; refine Calls.mono (HL.out _) ?_; rintro e w3 ⟨rfl, h3w⟩; subst w3))
        go_ret
        exact ⟨ret_bool HFF.out.symm, HB2.out⟩
      | true =>
        rw [hlab] at HL
        rcases HSP.out with ⟨h1, h2⟩ | ⟨t, h1, h2, h3⟩
        · have hnl : n = rest.length := by rw [h1] at hpo; simpa using hpo
          have HFF : Hid (isHost l = true) := by show _ = _; rw [HF.out, HA.out, h2]; simp [hlab]
          have heq : ((n : Int) == (rest.length : Int)) = true := by simp; omega
          clear h1 h2 hpo HSP hnl
          go_wp2_with (first | (go_at_call 56; refine Calls.mono (HU.out _) ?_; rintro e w2 ⟨rfl, hb2⟩; have HB2 : Hid _ := HB.out.trans (hb2.mono HB.out.size); clear hb2) | (go_at_call 86; refine Calls.mono (HL.out _) ?_; rintro e w3 ⟨rfl, h3w⟩; subst w3))
          go_ret
          exact ⟨ret_bool HFF.out.symm, HB2.out⟩
        · have hnl : n < rest.length := by rw [h1] at hpo; simp at hpo; omega
          have heq : ((n : Int) == (rest.length : Int)) = false := by simp; omega
          have hsl2 : ∀ w, (Instr.sliceAt 9 (.string (strN rest)) (some (.int .i64 ((n : Int) + 1))) none none).run Tryz.prog w = .ok (.string (strN t)) w := by
            intro w
            have := run_slice_from (w := w) rest .i64 (n + 1) (by omega)
            rw [show ((n + 1 : Nat) : Int) = (n : Int) + 1 by omega, ← List.drop_drop, HPD.out, h1] at this
            exact this
          have HA2 : Hid ((splitD 46 l).all isLab = (splitD 46 t).all isLab) := by show _ = _; rw [HA.out, h2]; simp [hlab]
          have HTb : Hid (∀ c ∈ t, c < 256) := fun c hc => HPM.out c (by rw [h1]; simp [hc])
          have HTm : Hid (mstr (.string (strN t)) < mstr (.string (strN rest))) := by show (strN t).size < (strN rest).size; rw [strN_size, strN_size]; exact h3
          clear h1 h2 hpo HSP HPM HPD
          go_wp2_with (first | (go_at_call 56; refine Calls.mono (HU.out _) ?_; rintro e w2 ⟨rfl, hb2⟩; have HB2 : Hid _ := HB.out.trans (hb2.mono HB.out.size); clear hb2) | (go_at_call 86; refine Calls.mono (HL.out _) ?_; rintro e w3 ⟨rfl, h3w⟩; subst w3))
          exact ⟨⟨t, rfl, by omega, HTb.out, HA2.out, HB2.out⟩, HTm.out⟩

set_option maxRecDepth 100000 in
set_option maxHeartbeats 4000000 in
theorem refPort_any (l : List Nat) (w : World) (hb : ∀ c ∈ l, c < 256) (hm : l.length ≤ 1000000) :
    Calls Tryz.prog 59 #[.string (strN l)] w fun e w' => (∃ v : Nat, e = .returned (.tuple #[.int .i64 (v : Int), .bool (isPort l)]) ∧ (isPort l = true → v = value l)) ∧ w' = w := by
  have hsz := strN_size l
  have HP : Hid _ := AddrMath.isPort_parts l
  by_cases h0 : l.length = 0
  · have HF : Hid (isPort l = false) := by show _ = _; rw [HP.out, decide_eq_false (show ¬ 1 ≤ l.length by omega)]; simp
    go_enter Tryz.func59, Tryz.ntmps59
    go_wp2
    go_ret2
    rw [HF.out]
    exact ⟨⟨0, rfl, fun h => by cases h⟩, rfl⟩
  · by_cases h5 : 5 < l.length
    · have HF : Hid (isPort l = false) := by show _ = _; rw [HP.out, decide_eq_false (show ¬ l.length ≤ 5 by omega)]; simp
      go_enter Tryz.func59, Tryz.ntmps59
      go_wp2
      go_ret2
      rw [HF.out]
      exact ⟨⟨0, rfl, fun h => by cases h⟩, rfl⟩
    · obtain ⟨a, ha⟩ : ∃ a, l[0]? = some a := ⟨l[0]'(by omega), List.getElem?_eq_getElem _⟩
      have ha256 := hb a (List.mem_of_getElem? ha)
      have hixa : ∀ w, (Instr.index 9 (.string (strN l)) (.int .i64 0)).run Tryz.prog w = .ok (.int .u8 (a : Int)) w := by
        intro w
        have := index_strN l hb 0 (by omega) .i64 w
        rw [ha] at this; exact this
      have hpre : [48].isPrefixOf l = decide (a = 48) := by
        cases l with
        | nil => cases ha
        | cons x t =>
          have : x = a := by simpa using ha
          subst this
          rw [AddrMath.prefix1]
          by_cases e : x = 48
          · subst e; simp
          · simp [e]
      have HP2 : Hid (isPort l = (!decide (a = 48) && l.all digit && decide (value l ≤ 65535))) := by
        show _ = _
        rw [HP.out, decide_eq_true (show 1 ≤ l.length by omega), decide_eq_true (show l.length ≤ 5 by omega), hpre]
        simp
      clear ha hpre HP
      by_cases ha48 : a = 48
      · have HF : Hid (isPort l = false) := by show _ = _; rw [HP2.out, decide_eq_true ha48]; rfl
        subst ha48
        go_enter Tryz.func59, Tryz.ntmps59
        go_wp2
        go_ret2
        rw [HF.out]
        exact ⟨⟨0, rfl, fun h => by cases h⟩, rfl⟩
      · have hna : ((a : Int) == 48) = false := by simp; omega
        have HP3 : Hid (isPort l = (l.all digit && decide (value l ≤ 65535))) := by show _ = _; rw [HP2.out, decide_eq_false ha48]; rfl
        clear ha48 HP2
        go_enter Tryz.func59, Tryz.ntmps59
        go_wp2
        go_loop [4, 5] (fun v i => ∃ k q : Nat, k ≤ l.length ∧ i = .int .i64 (k : Int) ∧ v = .int .i64 (q : Int) ∧ q = value (l.take k) ∧ q < 10 ^ k ∧ (l.take k).all digit = true) (fun _ i => l.length - (intOf i).toNat)
        case atStart => exact ⟨0, 0, by omega, rfl, rfl, rfl, by decide, by simp⟩
        case round =>
          obtain ⟨k, q, hk, rfl, rfl, hq, hq10, hall⟩ := hrel
          have HA : Hid _ := hall
          have HQ : Hid _ := hq
          have HQT : Hid _ := hq10
          have hq5 : q < 100000 := by
            have : 10 ^ k ≤ 10 ^ 5 := Nat.pow_le_pow_right (by decide) (by omega)
            have e : (10 : Nat) ^ 5 = 100000 := by decide
            omega
          clear hall hq hq10
          by_cases hlt : k < l.length
          · obtain ⟨c, hc⟩ : ∃ c, l[k]? = some c := ⟨l[k], List.getElem?_eq_getElem hlt⟩
            have hc256 := hb c (List.mem_of_getElem? hc)
            have hix : ∀ w, (Instr.index 9 (.string (strN l)) (.int .i64 (k : Int))).run Tryz.prog w = .ok (.int .u8 (c : Int)) w := by
              intro w
              have := index_strN l hb k hlt .i64 w
              rw [hc] at this; exact this
            cases hd : digit c with
            | true =>
              have hdc := (AddrMath.digit_iff c).1 hd
              have HN : Hid _ := AddrMath.all_take_succ hc HA.out hd
              have HV : Hid _ := AddrMath.value_take hc
              clear hc hd
              go_wp2
              go_round
              case rel =>
                refine ⟨k + 1, q * 10 + (c - 48), by omega, by simp, ?_, ?_, ?_, HN.out⟩
                · congr 1; omega
                · rw [HV.out, ← HQ.out]
                · have := HQT.out
                  rw [Nat.pow_succ]; omega
              case measure => simp [intOf]; omega
            | false =>
              have HF : Hid (isPort l = false) := by show _ = _; rw [HP3.out, AddrMath.all_false hc hd]; rfl
              have hcs : c < 48 ∨ 57 < c := by
                have : ¬ (48 ≤ c ∧ c ≤ 57) := fun h => by rw [(AddrMath.digit_iff c).2 h] at hd; cases hd
                omega
              clear hc hd
              rcases hcs with h1 | h1
              all_goals
                go_wp2
                go_ret2
                rw [HF.out]
                exact ⟨⟨0, rfl, fun h => by cases h⟩, rfl⟩
          · have hkl : l.take k = l := List.take_of_length_le (by omega)
            have HFT : Hid (isPort l = decide (q ≤ 65535)) := by
              show _ = _
              have h1 := HA.out
              rw [hkl] at h1
              rw [HP3.out, h1, HQ.out, hkl]; rfl
            have HQ2 : Hid (q = value l) := by show _ = _; rw [HQ.out, hkl]
            clear hkl
            go_wp2
            go_ret2
            rw [HFT.out]
            refine ⟨⟨q, ?_, fun _ => HQ2.out⟩, rfl⟩
            have e : (decide ((q : Int) ≤ 65535)) = decide (q ≤ 65535) := by rw [Bool.eq_iff_iff]; simp; omega
            simp [e]
end Go.Proofs.YteockpllnhjooaaGreatDoor
