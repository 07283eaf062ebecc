/-
  Walk of newsreelhelp.Texts.
-/
import Derived.Test.YtpffjeoiacaihaaDoorDrewN
import Derived.Test.YtpffjeoiacaihaaDoorValKit
import Derived.Deep.QuietTactic
namespace Go.Proofs.YtpffjeoiacaihaaDoor
open Go.RowKit NumMath
set_option maxRecDepth 100000
set_option linter.unusedVariables false
set_option linter.unusedSimpArgs false

theorem take_next {α : Type} {a b : List α} {k : Nat} {x : α} (h : a.take k = b.take k) (ha : a[k]? = some x) (hb : b[k]? = some x) : a.take (k + 1) = b.take (k + 1) := by
  obtain ⟨h1, h2⟩ := List.getElem?_eq_some_iff.1 ha
  obtain ⟨h3, h4⟩ := List.getElem?_eq_some_iff.1 hb
  rw [List.take_succ_eq_append_getElem h1, List.take_succ_eq_append_getElem h3, h2, h4, h]

set_option maxRecDepth 100000 in
set_option maxHeartbeats 2000000 in
theorem texts_any (a1 a2 : Option Addr) (c1 c2 : Nat) (us bs : List (List Nat)) (w : World) (h1 : VRow w a1 (sv us)) (h2 : VRow w a2 (sv bs)) (hb1 : ∀ t ∈ us, ∀ c ∈ t, c < 256) (hb2 : ∀ t ∈ bs, ∀ c ∈ t, c < 256)
    (hc1 : us.length ≤ c1) (hm1 : c1 ≤ maxLen) (hc2 : bs.length ≤ c2) (hm2 : c2 ≤ maxLen) :
    Calls Tryd.prog 39 #[.slice a1 us.length c1, .slice a2 bs.length c2] w fun e w' => e = .returned (.bool (decide (us = bs))) ∧ Below w.heap.size w w' := by
  unfold maxLen at hm1 hm2
  obtain ⟨m, hm⟩ : ∃ m, m = us.length := ⟨_, rfl⟩
  obtain ⟨m', hm'⟩ : ∃ m, m = bs.length := ⟨_, rfl⟩
  have HM : Hid _ := hm
  have HM' : Hid _ := hm'
  have H1 : Hid _ := h1
  have H2 : Hid _ := h2
  have B1 : Hid _ := hb1
  have B2 : Hid _ := hb2
  rw [← hm] at hc1 ⊢
  rw [← hm'] at hc2 ⊢
  clear hm hm' h1 h2 hb1 hb2
  by_cases hmm : m = m'
  · subst hmm
    go_enter Tryd.func39, Tryd.ntmps39
    go_wp2
    go_loopw [5] (fun i wr => ∃ (k n : Nat), k ≤ m ∧ i = .int .i64 (k : Int) ∧ us.take k = bs.take k ∧ wr = w.drewN n) (fun i _ => m - (intOf i).toNat)
    case atStart => exact ⟨0, 0, by omega, rfl, by simp, rfl⟩
    case round =>
      obtain ⟨k, n, hk, rfl, hpre, rfl⟩ := hrel
      have HP : Hid _ := hpre
      by_cases hlt : k < m
      · have hl1 : k < us.length := by rw [← HM.out]; exact hlt
        have hl2 : k < bs.length := by rw [← HM'.out]; exact hlt
        obtain ⟨b1, o1, rfl, hc1⟩ := VRow.at H1.out (k := k) (by rw [sv_len]; exact hl1)
        obtain ⟨b2, o2, rfl, hc2⟩ := VRow.at H2.out (k := k) (by rw [sv_len]; exact hl2)
        obtain ⟨s, hs⟩ : ∃ s, us[k]? = some s := ⟨us[k], List.getElem?_eq_getElem hl1⟩
        obtain ⟨t, ht⟩ : ∃ t, bs[k]? = some t := ⟨bs[k], List.getElem?_eq_getElem hl2⟩
        have hcx := hc1 k _ (sv_get hs)
        have hcy := hc2 k _ (sv_get ht)
        have heq := strN_eq (B1.out s (List.mem_of_getElem? hs)) (B2.out t (List.mem_of_getElem? ht))
        by_cases hst : s = t
        · subst hst
          have HN : Hid _ := take_next hpre hs ht
          have hne : ((strN s).toList != (strN s).toList) = false := by simp
          clear hpre hs ht hc1 hc2 heq
          go_wp2_with fail
          go_quiet (fail)
          go_wp2
          go_roundw
          case rel => exact ⟨k + 1, _, by omega, by go_num, HN.out, rfl⟩
          case measure => simp [intOf]; omega
        · have HF : Hid (decide (us = bs) = false) := by
            show _ = _
            apply decide_eq_false
            intro e
            subst e
            rw [hs] at ht
            exact hst (Option.some.inj ht)
          have hne : ((strN s).toList != (strN t).toList) = true := by
            rw [bne, heq]; simp [hst]
          have heq' : ((strN s).toList == (strN t).toList) = false := by rw [heq]; simp [hst]
          clear hpre hs ht hc1 hc2 heq hst
          go_wp2_with fail
          go_quiet (fail)
          go_wp2
          go_ret
          exact ⟨ret_bool HF.out.symm, Below.drewN (Below.drewN (Below.refl _ _) _) _⟩
      · clear hpre
        have e : k = m := by omega
        subst e
        go_wp2
        go_ret
        refine ⟨ret_bool ?_, Below.drewN (Below.refl _ _) _⟩
        have h1 := HP.out
        rw [List.take_of_length_le (by rw [← HM.out]; omega), List.take_of_length_le (by rw [← HM'.out]; omega)] at h1
        simp [h1]
  · have HF : Hid (decide (us = bs) = false) := by
      show _ = _
      apply decide_eq_false
      intro e
      apply hmm
      rw [HM.out, HM'.out, e]
    have hne : ((m : Int) != (m' : Int)) = true := by simp; omega
    go_enter Tryd.func39, Tryd.ntmps39
    go_wp2
    go_ret
    exact ⟨ret_bool HF.out.symm, Below.refl _ _⟩
end Go.Proofs.YtpffjeoiacaihaaDoor
