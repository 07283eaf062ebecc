/-
  FnAddrA, FnAddrB.
-/
import Derived.Test.YteockpllnhjooaaGreatDoorQC12
import Derived.Test.YteockpllnhjooaaGreatDoorQC13
import Derived.Test.YteockpllnhjooaaGreatDoorQC01
namespace Go.Proofs.YteockpllnhjooaaGreatDoor
open Go.RowKit NumMath
open AddrMath (pre post is No Ends cut3 colon splitD lower small)
set_option maxRecDepth 100000
set_option linter.unusedVariables false
set_option linter.unusedSimpArgs false
def smallC (r : Nat) : Bool := decide (97 ≤ r) && decide (r ≤ 122)
def capC (r : Nat) : Bool := decide (65 ≤ r) && decide (r ≤ 90)
theorem isSmall_any (r : Nat) (w : World) (h : r ≤ 1114111) :
    Calls Tryz.prog 99 #[.int .i32 (r : Int)] w fun e w' => e = .returned (.bool (smallC r)) ∧ w' = w := by
  go_enter Tryz.func99, Tryz.ntmps99
  go_wp2
  all_goals
    go_ret
    refine ⟨ret_bool ?_, rfl⟩
    rw [Bool.eq_iff_iff]
    simp [smallC] at *
    try omega
theorem isCapital_any (r : Nat) (w : World) (h : r ≤ 1114111) :
    Calls Tryz.prog 72 #[.int .i32 (r : Int)] w fun e w' => e = .returned (.bool (capC r)) ∧ w' = w := by
  go_enter Tryz.func72, Tryz.ntmps72
  go_wp2
  all_goals
    go_ret
    refine ⟨ret_bool ?_, rfl⟩
    rw [Bool.eq_iff_iff]
    simp [capC] at *
    try omega
theorem isDigit_any (r : Nat) (w : World) (h : r ≤ 1114111) :
    Calls Tryz.prog 97 #[.int .i32 (r : Int)] w fun e w' => e = .returned (.bool (AddrMath.digit r)) ∧ w' = w := by
  go_enter Tryz.func97, Tryz.ntmps97
  go_wp2
  all_goals
    go_ret
    refine ⟨ret_bool ?_, rfl⟩
    rw [Bool.eq_iff_iff]
    simp [AddrMath.digit] at *
    try omega
theorem isFree_any (r : Nat) (w : World) (h : r ≤ 1114111) :
    Calls Tryz.prog 78 #[.int .i32 (r : Int)] w fun e w' => e = .returned (.bool (AddrMath.plain r)) ∧ w' = w := by
  go_enter Tryz.func78, Tryz.ntmps78
  go_wp2
  all_goals
    go_ret
    refine ⟨ret_bool ?_, rfl⟩
    rw [Bool.eq_iff_iff]
    simp [AddrMath.plain] at *
    try omega
theorem usualPort_any (sch : List Nat) (hs : ∀ c ∈ sch, c < 256) (w : World) :
    Calls Tryz.prog 75 #[.string (strN sch)] w fun e w' => e = .returned (.string (strN (AddrMath.usual sch))) ∧ w' = w := by
  have he := eq_lit AddrMath.https [104, 116, 116, 112, 115] rfl hs (by decide)
  have HU : Hid (AddrMath.usual sch = if sch = AddrMath.https then [52, 52, 51] else [56, 48]) := rfl
  by_cases h : sch = AddrMath.https
  · rw [decide_eq_true h] at he
    have HH : Hid _ := h
    clear h
    go_enter Tryz.func75, Tryz.ntmps75
    go_wp2
    go_ret
    rw [HU.out, if_pos HH.out]
    exact ⟨rfl, rfl⟩
  · rw [decide_eq_false h] at he
    have HH : Hid _ := h
    clear h
    go_enter Tryz.func75, Tryz.ntmps75
    go_wp2
    go_ret
    rw [HU.out, if_neg HH.out]
    exact ⟨rfl, rfl⟩

set_option maxRecDepth 100000 in
set_option maxHeartbeats 4000000 in
theorem small_any (l : List Nat) (w : World) (hb : ∀ c ∈ l, c < 256) (hm : l.length ≤ 1000000000) :
    Calls Tryz.prog 46 #[.string (strN l)] w fun e w' => e = .returned (.string (strN (lower l))) ∧ Below w.heap.size w w' := by
  have hconv := conv_bytes w l
  have HBf : Hid (Buf (Lib.bytesWorld w 5 (strN l)) w.heap.size l) := Buf.new w l hb
  have HB0 : Hid (Below w.heap.size w (Lib.bytesWorld w 5 (strN l))) := bytes_below w l
  obtain ⟨n, hn⟩ : ∃ n, n = l.length := ⟨_, rfl⟩
  have HN : Hid _ := hn
  rw [← hn] at hconv hm
  generalize grownCap w n 0 5 = cap at *
  clear hn
  go_enter Tryz.func46, Tryz.ntmps46
  go_wp2
  generalize Lib.bytesWorld w 5 (strN l) = w1 at *
  obtain ⟨g, hg⟩ : ∃ g, g = w.heap.size := ⟨_, rfl⟩
  rw [← hg] at HBf ⊢
  have hgw : w.heap.size ≤ g := by omega
  clear hg hconv
  go_loopw [10] (fun i wr => ∃ k : Nat, k ≤ n ∧ i = .int .i64 (k : Int) ∧ Buf wr g ((l.take k).map small ++ l.drop k) ∧ Below w.heap.size w wr) (fun i _ => n - (intOf i).toNat)
  case atStart => exact ⟨0, by omega, rfl, by simpa using HBf.out, HB0.out⟩
  case round =>
    clear HBf HB0
    obtain ⟨k, hk, rfl, hbuf, hbw⟩ := hrel
    have HF : Hid _ := hbuf
    have HB : Hid _ := hbw
    clear hbuf hbw
    by_cases hlt : k < n
    · obtain ⟨c, hc⟩ : ∃ c, l[k]? = some c := ⟨l[k]'(by rw [← HN.out]; exact hlt), List.getElem?_eq_getElem _⟩
      have HC : Hid _ := hc
      have hc256 := hb c (List.mem_of_getElem? hc)
      have hcell := HF.out.1 k c (take_at l small k c hc)
      have hfz := HF.out.2 k (by rw [take_len, ← HN.out]; exact hlt)
      clear hc
      cases hcap : capC c with
      | true =>
        have hcr : 65 ≤ c ∧ c ≤ 90 := by simpa [capC] using hcap
        have HBx : Hid (Buf (wr.setCell ⟨g, k, none⟩ (.int .u8 ((c : Int) - 65 + 97))) g ((l.take (k + 1)).map small ++ l.drop (k + 1))) := by
          have := Buf.set HF.out k (small c) (by rw [take_len, ← HN.out]; exact hlt)
          rw [take_set l small k c HC.out] at this
          have e : ((small c : Nat) : Int) = (c : Int) - 65 + 97 := by unfold small; rw [if_pos hcr]; omega
          rw [e] at this
          exact this
        have HB2 : Hid (Below w.heap.size w (wr.setCell ⟨g, k, none⟩ (.int .u8 ((c : Int) - 65 + 97)))) := HB.out.setCell hgw _
        go_wp2_with (go_at_call 72; refine (isCapital_any c _ (by omega)).mono ?_; rintro e w2 ⟨rfl, rfl⟩)
        go_roundw
        case rel => exact ⟨k + 1, by omega, by simp, HBx.out, HB2.out⟩
        case measure => simp [intOf]; omega
      | false =>
        have hs : small c = c := by unfold small; rw [if_neg (by simpa [capC] using hcap)]
        have HS : Hid _ := hs
        clear hs
        go_wp2_with (go_at_call 72; refine (isCapital_any c _ (by omega)).mono ?_; rintro e w2 ⟨rfl, rfl⟩)
        go_roundw
        case rel => exact ⟨k + 1, by omega, by simp, by rw [← take_keep l small k c HC.out HS.out]; exact HF.out, HB.out⟩
        case measure => simp [intOf]; omega
    · have e : k = n := by omega
      subst e
      have hst := Buf.str HF.out (n := k) (by rw [take_len, ← HN.out]) cap
      have HL : Hid ((l.take k).map small ++ l.drop k = lower l) := by
        show _ = _
        rw [List.take_of_length_le (by rw [← HN.out]; omega), List.drop_eq_nil_of_le (by rw [← HN.out]; omega)]
        simp [lower]
      rw [HL.out] at hst
      go_wp2
      go_ret
      exact ⟨rfl, HB.out⟩
end Go.Proofs.YteockpllnhjooaaGreatDoor
namespace Go.Proofs.YteockpllnhjooaaGreatDoor
open Go.RowKit NumMath
open AddrMath (pre post is No Ends cut3 colon splitD lower small labC isLab isHost isPort digit value)
set_option maxRecDepth 100000
set_option linter.unusedVariables false
set_option linter.unusedSimpArgs false
theorem lab_cases {c : Nat} (h : labC c = true) : smallC c = true ∨ (smallC c = false ∧ digit c = true) ∨ (smallC c = false ∧ digit c = false ∧ c = 45) := by
  simp [labC, smallC, digit] at *
  omega
theorem lab_not {r : Nat} (h : labC r = false) : smallC r = false ∧ digit r = false ∧ r ≠ 45 := by
  simp [labC, smallC, digit] at *
  omega
theorem lab_dec {l : List Nat} {k c : Nat} (h : l[k]? = some c) (hc : labC c = false) : labC (TxtMath.dec (l.drop k)).1 = false := by
  by_cases h1 : c < 128
  · rw [AddrMath.dec_ascii h h1]; exact hc
  · have := AddrMath.dec_big h (by omega)
    simp [labC]; omega
theorem digit_dec {l : List Nat} {k c : Nat} (h : l[k]? = some c) (hc : digit c = false) : digit (TxtMath.dec (l.drop k)).1 = false := by
  by_cases h1 : c < 128
  · rw [AddrMath.dec_ascii h h1]; exact hc
  · have := AddrMath.dec_big h (by omega)
    simp [digit]; omega

set_option maxRecDepth 100000 in
set_option maxHeartbeats 4000000 in
theorem isLabel_any (l : List Nat) (w : World) (hb : ∀ c ∈ l, c < 256) (hm : l.length ≤ 1000000000) :
    Calls Tryz.prog 96 #[.string (strN l)] w fun e w' => e = .returned (.bool (isLab l)) ∧ Below w.heap.size w w' := by
  have HP : Hid _ := AddrMath.isLab_parts l
  have hse := eq_lit [] [] rfl hb (by decide)
  have hsz := strN_size l
  have HH1 : Hid (∀ w, _) := fun w => hasPrefix_any l [45] hb (by decide) w
  have HH2 : Hid (∀ w, _) := fun w => hasSuffix_any l [45] hb (by decide) hm w
  by_cases h0 : l = []
  · rw [decide_eq_true h0] at hse
    have HF : Hid (isLab l = false) := by show isLab l = false; rw [h0]; decide
    clear h0
    go_enter Tryz.func96, Tryz.ntmps96
    go_wp2
    go_ret
    exact ⟨ret_bool HF.out.symm, Below.refl _ _⟩
  · rw [decide_eq_false h0] at hse
    have hpos : 0 < l.length := List.length_pos_iff.2 h0
    by_cases h63 : 63 < l.length
    · have HF : Hid (isLab l = false) := by show _ = _; rw [HP.out, decide_eq_false (show ¬ l.length ≤ 63 by omega)]; simp
      clear h0
      go_enter Tryz.func96, Tryz.ntmps96
      go_wp2
      go_ret
      exact ⟨ret_bool HF.out.symm, Below.refl _ _⟩
    · rw [decide_eq_true (show 1 ≤ l.length by omega), decide_eq_true (show l.length ≤ 63 by omega)] at HP
      simp only [Bool.true_and] at HP
      cases hp1 : [45].isPrefixOf l with
      | true =>
        rw [hp1] at HH1 HP
        have HF : Hid (isLab l = false) := by show _ = _; rw [HP.out]; rfl
        clear h0 hp1
        go_enter Tryz.func96, Tryz.ntmps96
        go_wp2_with (go_at_call 80; refine Calls.mono (HH1.out _) ?_; rintro e w2 ⟨rfl, h2w⟩; subst w2)
        go_ret
        exact ⟨ret_bool HF.out.symm, Below.refl _ _⟩
      | false =>
        rw [hp1] at HH1 HP
        cases hp2 : [45].isSuffixOf l with
        | true =>
          rw [hp2] at HH2 HP
          have HF : Hid (isLab l = false) := by show _ = _; rw [HP.out]; rfl
          clear h0 hp1 hp2
          go_enter Tryz.func96, Tryz.ntmps96
          go_wp2_with (first | (go_at_call 80; refine Calls.mono (HH1.out _) ?_; rintro e w2 ⟨rfl, h2w⟩; subst w2) | (go_at_call 112; refine Calls.mono (HH2.out _) ?_; rintro e w2 ⟨rfl, h2w⟩; subst w2))
          go_ret
          exact ⟨ret_bool HF.out.symm, Below.refl _ _⟩
        | false =>
          rw [hp2] at HH2 HP
          have HF : Hid (isLab l = l.all labC) := by show _ = _; rw [HP.out]; rfl
          have HI0 : Hid (Iter (w.alloc (.stringIter (strN l) 0)) w.heap.size l 0) := Iter.new _ l _ rfl
          have HB0 : Hid (Below w.heap.size w (w.alloc (.stringIter (strN l) 0))) := (Below.refl _ w).alloc (Nat.le_refl _) _
          clear h0 hp1 hp2 HP
          go_enter Tryz.func96, Tryz.ntmps96
          go_wp2_with (first | (go_at_call 80; refine Calls.mono (HH1.out _) ?_; rintro e w2 ⟨rfl, h2w⟩; subst w2) | (go_at_call 112; refine Calls.mono (HH2.out _) ?_; rintro e w2 ⟨rfl, h2w⟩; subst w2))
          go_loopw [] (fun wr => ∃ k : Nat, Iter wr w.heap.size l k ∧ Below w.heap.size w wr ∧ (l.take k).all labC = true) (fun wr => l.length - wr.iterPos w.heap.size)
          case atStart => exact ⟨0, HI0.out, HB0.out, by simp⟩
          case round =>
            clear HI0 HB0 HH1 HH2
            obtain ⟨k, hit, hbw, hall⟩ := hrel
            have hlt := hit.lt
            have HIT : Hid _ := hit
            have HBW : Hid _ := hbw
            have HA : Hid _ := hall
            by_cases hp : k < l.length
            · obtain ⟨r, n, hnx, hv, hr, hn, hpn, hru, hdec⟩ := next_some hit hb hp
              obtain ⟨c, hc⟩ : ∃ c, l[k]? = some c := ⟨l[k], List.getElem?_eq_getElem hp⟩
              have HC : Hid _ := hc
              have HI2 : Hid _ := hit.set (k + n)
              have HB2 : Hid _ := Lib.below_iterAt hbw (k := w.heap.size) (by omega) (strN l) (k + n)
              have HM : Hid (l.length - (k + n) < l.length - wr.iterPos w.heap.size) := by
                show _ < _; rw [Iter.pos HIT.out]; omega
              cases hlab : labC c with
              | true =>
                have hd2 := AddrMath.dec_ascii hc (by simp [labC] at hlab; omega)
                rw [hd2] at hdec
                obtain ⟨rfl, rfl⟩ := Prod.mk.inj hdec
                have HAn : Hid _ := AddrMath.all_take_succ hc hall hlab
                have hcs := lab_cases hlab
                clear hit hbw hru hdec hd2 hv hall hc hn
                generalize wr.iterAt w.heap.size (strN l) (k + 1) = w1 at *
                rcases hcs with h1 | ⟨h1, h2⟩ | ⟨h1, h2, h3⟩
                · go_wp2_with (go_at_call 99; refine (isSmall_any c _ hr).mono ?_; rintro e w2 ⟨rfl, h2w⟩; subst w2)
                  go_roundw
                  case rel => exact ⟨k + 1, HI2.out, HB2.out, HAn.out⟩
                  case measure => rw [Iter.pos HI2.out]; exact HM.out
                · go_wp2_with (first | (go_at_call 99; refine (isSmall_any c _ hr).mono ?_; rintro e w2 ⟨rfl, h2w⟩; subst w2) | (go_at_call 97; refine (isDigit_any c _ hr).mono ?_; rintro e w2 ⟨rfl, h2w⟩; subst w2))
                  go_roundw
                  case rel => exact ⟨k + 1, HI2.out, HB2.out, HAn.out⟩
                  case measure => rw [Iter.pos HI2.out]; exact HM.out
                · have HH3 : Hid _ := h3
                  subst h3
                  go_wp2_with (first | (go_at_call 99; refine (isSmall_any 45 _ hr).mono ?_; rintro e w2 ⟨rfl, h2w⟩; subst w2) | (go_at_call 97; refine (isDigit_any 45 _ hr).mono ?_; rintro e w2 ⟨rfl, h2w⟩; subst w2))
                  go_roundw
                  case rel => exact ⟨k + 1, HI2.out, HB2.out, HAn.out⟩
                  case measure => rw [Iter.pos HI2.out]; exact HM.out
              | false =>
                have hlr := lab_dec hc hlab
                rw [hdec] at hlr
                obtain ⟨h1, h2, h3⟩ := lab_not hlr
                have HFF : Hid (isLab l = false) := by show _ = _; rw [HF.out]; exact AddrMath.all_false hc hlab
                have h4 : ((r : Int) == 45) = false := by simp; omega
                have h5 : ¬ ((r : Int) = 45) := by omega
                clear hit hbw hru hdec hv hall hc hn hlr hlab
                generalize wr.iterAt w.heap.size (strN l) (k + n) = w1 at *
                go_wp2_with (first | (go_at_call 99; refine (isSmall_any r _ hr).mono ?_; rintro e w2 ⟨rfl, h2w⟩; subst w2) | (go_at_call 97; refine (isDigit_any r _ hr).mono ?_; rintro e w2 ⟨rfl, h2w⟩; subst w2))
                go_ret
                exact ⟨ret_bool HFF.out.symm, HB2.out⟩
            · have hnx := next_none (l := l) hit hp
              have HFT : Hid (isLab l = true) := by show _ = _; rw [HF.out]; rwa [List.take_of_length_le (by omega)] at hall
              clear hit hbw hall
              go_wp2
              go_ret
              exact ⟨ret_bool HFT.out.symm, HBW.out⟩

set_option maxRecDepth 100000 in
set_option maxHeartbeats 4000000 in
theorem isHost_any (l : List Nat) (w : World) (ht : MaxLen w) (hb : ∀ c ∈ l, c < 256) (hm : l.length ≤ 1000000000) :
    Calls Tryz.prog 73 #[.string (strN l)] w fun e w' => e = .returned (.bool (isHost l)) ∧ Below w.heap.size w w' := by
  have HP : Hid (isHost l = (decide (l.length ≤ 100) && (splitD 46 l).all isLab)) := rfl
  have hsz := strN_size l
  by_cases h100 : 100 < l.length
  · have HF : Hid (isHost l = false) := by show _ = _; rw [HP.out, decide_eq_false (show ¬ l.length ≤ 100 by omega)]; rfl
    go_enter Tryz.func73, Tryz.ntmps73
    go_wp2
    go_ret
    exact ⟨ret_bool HF.out.symm, Below.refl _ _⟩
  · have HS : Hid _ := split_any 46 (by decide) l hb w ht hm
    have HLB : Hid (∀ g ∈ splitD 46 l, (∀ c ∈ g, c < 256) ∧ g.length ≤ 1000000000) := by
      intro g hg
      refine ⟨fun c hc => hb c (AddrMath.splitD_mem 46 l g hg c hc), ?_⟩
      have h1 : ∀ (l : List Nat), ∀ g ∈ splitD 46 l, g.length ≤ l.length := by
        intro l
        induction l with
        | nil => intro g hg; simp [splitD] at hg; subst hg; simp
        | cons x t ih =>
          intro g hg
          rw [AddrMath.splitD_cons] at hg
          split at hg
          · rcases List.mem_cons.1 hg with rfl | hg
            · simp
            · have := ih g hg; simp; omega
          · split at hg
            · rename_i e; exact absurd e (AddrMath.splitD_ne 46 t)
            · rename_i h r e
              rcases List.mem_cons.1 hg with rfl | hg
              · have := ih h (by rw [e]; simp); simp; omega
              · have := ih g (by rw [e]; simp [hg]); simp; omega
      have := h1 l g hg
      omega
    have HF : Hid (isHost l = (splitD 46 l).all isLab) := by show _ = _; rw [HP.out, decide_eq_true (show l.length ≤ 100 by omega)]; rfl
    have hcnt : (splitD 46 l).length ≤ 101 := by rw [AddrMath.splitD_count]; have := List.count_le_length (a := 46) (l := l); omega
    generalize splitD 46 l = G at *
    obtain ⟨m, hmG⟩ : ∃ m, m = G.length := ⟨_, rfl⟩
    have HM : Hid _ := hmG
    rw [← hmG] at HS hcnt
    clear hmG HP
    go_enter Tryz.func73, Tryz.ntmps73
    go_wp2_with (go_at_call 95; refine Calls.mono HS.out ?_; rintro e w1 ⟨rfl, hb1, hrow⟩; have HB1 : Hid _ := hb1; have HR : Hid _ := hrow; clear hb1 hrow)
    obtain ⟨g, hg⟩ : ∃ g, g = w.heap.size := ⟨_, rfl⟩
    rw [← hg] at HR ⊢
    have hgw : w.heap.size ≤ g := by omega
    clear hg HS
    go_loopw [11] (fun i wr => ∃ k : Nat, k ≤ m ∧ i = .int .i64 (k : Int) ∧ Below w1.heap.size w1 wr ∧ (G.take k).all isLab = true) (fun i _ => m - (intOf i).toNat)
    case atStart => exact ⟨0, by omega, rfl, Below.refl _ _, by simp⟩
    case round =>
      obtain ⟨k, hk, rfl, hbw, hall⟩ := hrel
      have HBW : Hid _ := hbw
      by_cases hlt : k < m
      · have hkl : k < G.length := by rw [← HM.out]; exact hlt
        obtain ⟨b, off, hao, hcell⟩ := VRow.at HR.out (k := k) (by rw [sv_len]; exact hkl)
        simp only [Option.some.injEq, Addr.mk.injEq, and_true] at hao
        obtain ⟨rfl, rfl⟩ := hao
        obtain ⟨t, ht⟩ : ∃ t, G[k]? = some t := ⟨G[k], List.getElem?_eq_getElem hkl⟩
        have HT : Hid _ := ht
        have HC0 : Hid _ := hcell k _ (sv_get ht)
        have hcx := cell_later HC0.out hbw
        rw [Nat.zero_add] at hcx
        obtain ⟨htb, htl⟩ := HLB.out t (List.mem_of_getElem? ht)
        have HLab : Hid (∀ w, _) := fun w => isLabel_any t w htb htl
        have HALL : Hid _ := hall
        clear hcell ht hbw hall
        cases hl : isLab t with
        | true =>
          rw [hl] at HLab
          have HN : Hid ((G.take (k + 1)).all isLab = true) := by
            show _ = _
            obtain ⟨h1, h2⟩ := List.getElem?_eq_some_iff.1 HT.out
            rw [List.take_succ_eq_append_getElem hkl, List.all_append, HALL.out, h2]
            simp [hl]
          go_wp2_with (go_at_call 96; refine Calls.mono (HLab.out _) ?_; rintro e w2 ⟨rfl, hb2⟩; have HB2 : Hid _ := HBW.out.trans (hb2.mono HBW.out.size); clear hb2)
          go_roundw
          case rel => exact ⟨k + 1, by omega, by simp, HB2.out, HN.out⟩
          case measure => simp [intOf]; omega
        | false =>
          rw [hl] at HLab
          have HFF : Hid (isHost l = false) := by
            show _ = _
            rw [HF.out]
            apply Bool.eq_false_iff.2
            intro ha
            have := List.all_eq_true.1 ha t (List.mem_of_getElem? HT.out)
            rw [hl] at this; cases this
          go_wp2_with (go_at_call 96; refine Calls.mono (HLab.out _) ?_; rintro e w2 ⟨rfl, hb2⟩; have HB2 : Hid _ := HBW.out.trans (hb2.mono HBW.out.size); clear hb2)
          go_ret
          exact ⟨ret_bool HFF.out.symm, HB1.out.trans (HB2.out.mono HB1.out.size)⟩
      · have HFT : Hid (isHost l = true) := by show _ = _; rw [HF.out]; rwa [List.take_of_length_le (by rw [← HM.out]; omega)] at hall
        clear hbw hall
        go_wp2
        go_ret
        exact ⟨ret_bool HFT.out.symm, HB1.out.trans (HBW.out.mono HB1.out.size)⟩
end Go.Proofs.YteockpllnhjooaaGreatDoor
