/-
  FnRefTop, FnRefCut.
-/
import Derived.Test.YteockpllnhjooaaGreatDoorQC32
import Derived.Test.YteockpllnhjooaaGreatDoorQC11
import Derived.Test.YteockpllnhjooaaGreatDoorQC33
import Derived.Test.YteockpllnhjooaaGreatDoorQC22
namespace Go.Proofs.YteockpllnhjooaaGreatDoor
open Go.RowKit NumMath
set_option maxRecDepth 100000
set_option linter.unusedVariables false
set_option linter.unusedSimpArgs false

theorem runes_le (l : List Nat) : ∀ r ∈ TxtMath.runes l, r ≤ 1114111 := fun r h => TxtMath.valid_le (TxtMath.runes_ok l r h)
theorem clean_le (l : List Nat) : (TxtMath.clean (TxtMath.runes l)).length ≤ l.length := by
  have h2 := TxtMath.clean_len (TxtMath.runes l)
  have h3 := TxtMath.runes_len_le l
  omega

/-- newsreelref4's runes made clean. -/
theorem refCleanR_any (l : List Nat) (w : World) (hb : ∀ c ∈ l, c < 256) (hm : l.length ≤ 17592186044000) :
    ∀ ao cap, VRow w ao (iv (TxtMath.runes l)) → (TxtMath.runes l).length ≤ cap → cap ≤ maxLen →
    Calls Tryz.prog 33 #[.slice ao (TxtMath.runes l).length cap] w fun e w' => ∃ v, e = .returned v ∧ Own w' w.heap.size 3 v (iv (TxtMath.clean (TxtMath.runes l))) ∧ Below w.heap.size w w' := by
  intro ao cap h1 h2 h3
  have h4 := TxtMath.runes_len_le l
  exact refClean_any ao cap _ w h1 (runes_le l) h2 h3 (by omega)

set_option maxRecDepth 100000 in
theorem refCleanS_any (l : List Nat) (w : World) (hb : ∀ c ∈ l, c < 256) (hm : l.length ≤ 17592186044000) :
    Calls Tryz.prog 31 #[.string (strN l)] w fun e w' => e = .returned (.string (strN (TxtMath.cleanB l))) ∧ Below w.heap.size w w' := by
  have HR : Hid (∀ w, _) := fun w => refRunes_any l w hb hm
  have HC : Hid (∀ w, _) := fun w => refCleanR_any l w hb hm
  have HQ : Hid (TxtMath.cleanB l = TxtMath.encs (TxtMath.clean (TxtMath.runes l))) := rfl
  have hcl := clean_le l
  have HV : Hid _ := TxtMath.clean_ok l
  generalize TxtMath.clean (TxtMath.runes l) = C at *
  generalize TxtMath.runes l = R at *
  go_enter Tryz.func31, Tryz.ntmps31
  go_wp2_with fail
  refine Calls.mono (HR.out _) ?_
  rintro e w1 ⟨v1, rfl, ho1, hb1⟩
  obtain ⟨a1, c1, rfl, hc1, hm1, _, hr1⟩ := ho1.shape
  rw [iv_len] at hc1 ⊢
  have HB1 : Hid _ := hb1
  have HR1 : Hid _ := HC.out w1 a1 c1 hr1 hc1 hm1
  clear ho1 hb1 hr1
  go_wp2_with fail
  refine Calls.mono HR1.out ?_
  rintro e w2 ⟨v2, rfl, ho2, hb2⟩
  obtain ⟨a2, c2, rfl, hc2, hm2, _, hr2⟩ := ho2.shape
  rw [iv_len] at hc2 ⊢
  have HB2 : Hid _ := HB1.out.trans (hb2.mono HB1.out.size)
  have HO : Hid _ := of_any a2 c2 C w2 hr2 HV.out hc2 hm2 (by omega)
  clear ho2 hb2 hr2
  go_wp2_with fail
  refine Calls.mono HO.out ?_
  rintro e w3 ⟨rfl, hb3⟩
  have HB3 : Hid _ := HB2.out.trans (hb3.mono HB2.out.size)
  clear hb3
  go_wp2
  go_ret
  rw [HQ.out]
  exact ⟨rfl, HB3.out⟩

end Go.Proofs.YteockpllnhjooaaGreatDoor
namespace Go.Proofs.YteockpllnhjooaaGreatDoor
open Go.RowKit NumMath
set_option maxRecDepth 100000
set_option linter.unusedVariables false
set_option linter.unusedSimpArgs false

set_option maxRecDepth 100000 in
set_option maxHeartbeats 2000000 in
theorem refCut_any (l : List Nat) (n : Int) (w : World) (hb : ∀ c ∈ l, c < 256) (hm : l.length ≤ 17592186044000) (hn : -9223372036854775808 ≤ n ∧ n ≤ 9223372036854775807) :
    Calls Tryz.prog 15 #[.string (strN l), .int .i64 n] w fun e w' => e = .returned (.string (strN (TxtMath.cutB l n))) ∧ Below w.heap.size w w' := by
  have HR : Hid (∀ w, _) := fun w => refRunes_any l w hb hm
  have HC : Hid (∀ w, _) := fun w => refCleanR_any l w hb hm
  have HQ : Hid (TxtMath.cutB l n = TxtMath.encs (TxtMath.trimR ((TxtMath.clean (TxtMath.runes l)).take n.toNat))) := rfl
  have hcl := clean_le l
  have HV : Hid _ := TxtMath.clean_ok l
  generalize TxtMath.clean (TxtMath.runes l) = C at *
  generalize TxtMath.runes l = R at *
  go_enter Tryz.func15, Tryz.ntmps15
  go_wp2_with fail
  refine Calls.mono (HR.out _) ?_
  rintro e w1 ⟨v1, rfl, ho1, hb1⟩
  obtain ⟨a1, c1, rfl, hc1, hm1, _, hr1⟩ := ho1.shape
  rw [iv_len] at hc1 ⊢
  have HB1 : Hid _ := hb1
  have HR1 : Hid _ := HC.out w1 a1 c1 hr1 hc1 hm1
  clear ho1 hb1 hr1
  go_wp2_with fail
  refine Calls.mono HR1.out ?_
  rintro e w2 ⟨v2, rfl, ho2, hb2⟩
  obtain ⟨a2, c2, rfl, hc2, hm2, hn2, hr2⟩ := ho2.shape
  rw [iv_len] at hc2 ⊢
  unfold maxLen at hm2
  have HB2 : Hid _ := HB1.out.trans (hb2.mono HB1.out.size)
  -- how many
  obtain ⟨k, hk⟩ : ∃ k : Nat, k = min n.toNat C.length := ⟨_, rfl⟩
  have hkC : k ≤ C.length := by omega
  have HK : Hid (C.take n.toNat = C.take k) := by
    show _ = _
    rcases Nat.le_total n.toNat C.length with h | h
    · rw [hk, Nat.min_eq_left h]
    · rw [hk, Nat.min_eq_right h, List.take_of_length_le h, List.take_of_length_le (Nat.le_refl _)]
  have hmin : min (max n 0) (C.length : Int) = (k : Int) := by omega
  have HT : Hid (VRow w2 a2 (iv (C.take k))) := by show VRow _ _ _; rw [iv_take]; exact VRow.take hr2 k
  have HTl : Hid ((C.take k).length = k) := by show _ = _; rw [List.length_take]; omega
  clear ho2 hb2 hk
  have fin : ∀ q : Nat, q ≤ k → TxtMath.trimR (C.take k) = C.take q → ∀ (w' : World), w' = w2 →
      Calls Tryz.prog 34 #[.slice a2 q c2] w' fun e w' => e = .returned (.string (strN (TxtMath.cutB l n))) ∧ Below w2.heap.size w2 w' := by
    intro q hq htr w' hw'
    subst hw'
    have hql : (C.take q).length = q := by rw [List.length_take]; omega
    have h1 := of_any a2 c2 (C.take q) w' (by rw [iv_take]; exact VRow.take hr2 q) (fun r hr => HV.out r (List.mem_of_mem_take hr)) (by omega) hm2 (by omega)
    rw [hql] at h1
    rw [HQ.out, HK.out, htr]
    exact h1
  have HF : Hid _ := fin
  have HTR : Hid _ := hr2
  clear fin hr2
  by_cases hk0 : 0 < k
  · obtain ⟨j, rfl⟩ : ∃ j, k = j + 1 := ⟨k - 1, by omega⟩
    obtain ⟨b, off, rfl, hcell⟩ := VRow.at HTR.out (k := j) (by rw [iv_len]; omega)
    obtain ⟨r, hrk⟩ : ∃ r, C[j]? = some r := ⟨C[j]'(by omega), List.getElem?_eq_getElem (by omega)⟩
    have hcx := hcell j _ (iv_get hrk)
    have HL : Hid ((C.take (j + 1)) = C.take j ++ [r]) := by
      show _ = _
      obtain ⟨h1, h2⟩ := List.getElem?_eq_some_iff.1 hrk
      rw [List.take_succ_eq_append_getElem h1, h2]
    clear hcell hrk
    by_cases h32 : r = 32
    · subst h32
      have HTM : Hid (TxtMath.trimR (C.take (j + 1)) = C.take j) := by
        show _ = _; rw [HL.out]; unfold TxtMath.trimR; simp
      go_wp2_with fail
      refine Calls.mono (HF.out j (by omega) HTM.out _ rfl) ?_
      rintro e w3 ⟨rfl, hb3⟩
      have HB3 : Hid _ := HB2.out.trans (hb3.mono HB2.out.size)
      clear hb3
      go_wp2
      go_ret
      exact ⟨rfl, HB3.out⟩
    · have HTM : Hid (TxtMath.trimR (C.take (j + 1)) = C.take (j + 1)) := by
        show _ = _; rw [HL.out]; unfold TxtMath.trimR; simp [h32]
      have hne : ((r : Int) == 32) = false := by simp; omega
      go_wp2_with fail
      refine Calls.mono (HF.out (j + 1) (by omega) HTM.out _ rfl) ?_
      rintro e w3 ⟨rfl, hb3⟩
      have HB3 : Hid _ := HB2.out.trans (hb3.mono HB2.out.size)
      clear hb3
      go_wp2
      go_ret
      exact ⟨rfl, HB3.out⟩
  · obtain rfl : k = 0 := by omega
    have HTM : Hid (TxtMath.trimR (C.take 0) = C.take 0) := by show _ = _; simp [TxtMath.trimR]
    go_wp2_with fail
    refine Calls.mono (HF.out 0 (by omega) HTM.out _ rfl) ?_
    rintro e w3 ⟨rfl, hb3⟩
    have HB3 : Hid _ := HB2.out.trans (hb3.mono HB2.out.size)
    clear hb3
    go_wp2
    go_ret
    exact ⟨rfl, HB3.out⟩
end Go.Proofs.YteockpllnhjooaaGreatDoor
