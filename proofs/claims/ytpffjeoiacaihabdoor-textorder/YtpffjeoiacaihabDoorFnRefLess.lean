/-
  Walk of newsreelref4.Less.
-/
import Derived.Test.YtpffjeoiacaihabDoorFnRefFold
import Derived.Test.YtpffjeoiacaihabDoorTxtLess
import Derived.Test.YtpffjeoiacaihabDoorFnTexts
namespace Go.Proofs.YtpffjeoiacaihabDoor
open Go.RowKit NumMath
set_option maxRecDepth 100000
set_option linter.unusedVariables false
set_option linter.unusedSimpArgs false

theorem less_str {a b : List Nat} (ha : ∀ c ∈ a, c < 256) (hb : ∀ c ∈ b, c < 256) : Op.bytesLess (strN a).toList (strN b).toList = TxtMath.lexLt a b := by
  rw [strN_toList, strN_toList]; exact lex_less a b ha hb

set_option maxRecDepth 100000 in
set_option maxHeartbeats 2000000 in
theorem refLess_any (a b : List Nat) (w : World) (ha : ∀ c ∈ a, c < 256) (hb : ∀ c ∈ b, c < 256) (hma : a.length ≤ 17592186044000) (hmb : b.length ≤ 17592186044000) :
    Calls Tryd.prog 9 #[.string (strN a), .string (strN b)] w fun e w' => e = .returned (.bool (TxtMath.lessB a b)) ∧ Below w.heap.size w w' := by
  have hls := less_str ha hb
  have HX : Hid (∀ w, _) := fun w => refFoldR_any a w ha hma
  have HY : Hid (∀ w, _) := fun w => refFoldR_any b w hb hmb
  have HD : Hid (∀ P X Y x y, TxtMath.foldR a = P ++ x :: X → TxtMath.foldR b = P ++ y :: Y → x ≠ y → _) := TxtMath.less_diff a b
  have HS : Hid (∀ P Y y, TxtMath.foldR a = P → TxtMath.foldR b = P ++ y :: Y → _) := TxtMath.less_short a b
  have HL : Hid (∀ P X x, TxtMath.foldR a = P ++ x :: X → TxtMath.foldR b = P → _) := TxtMath.less_long a b
  have HE : Hid (TxtMath.foldR a = TxtMath.foldR b → _) := TxtMath.less_same a b
  have hxl : (TxtMath.foldR a).length ≤ a.length := by unfold TxtMath.foldR; rw [List.length_map]; exact TxtMath.runes_len_le a
  have hyl : (TxtMath.foldR b).length ≤ b.length := by unfold TxtMath.foldR; rw [List.length_map]; exact TxtMath.runes_len_le b
  generalize TxtMath.foldR a = X at *
  generalize TxtMath.foldR b = Y at *
  go_enter Tryd.func9, Tryd.ntmps9
  go_wp2_with fail
  refine Calls.mono (HX.out _) ?_
  rintro e w1 ⟨v1, rfl, ho1, hb1⟩
  obtain ⟨a1, c1, rfl, hc1, hm1, _, hr1⟩ := ho1.shape
  rw [iv_len] at hc1 ⊢
  have HB1 : Hid _ := hb1
  have HR1 : Hid _ := hr1
  clear ho1 hb1 hr1
  go_wp2_with fail
  refine Calls.mono (HY.out _) ?_
  rintro e w2 ⟨v2, rfl, ho2, hb2⟩
  obtain ⟨a2, c2, rfl, hc2, hm2, _, hr2⟩ := ho2.shape
  rw [iv_len] at hc2 ⊢
  have H1 : Hid (VRow w2 a1 (iv X)) := VRow.later HR1.out hb2
  have H2 : Hid (VRow w2 a2 (iv Y)) := hr2
  have HB2 : Hid _ := HB1.out.trans (hb2.mono HB1.out.size)
  unfold maxLen at hm1 hm2
  clear ho2 hb2 hr2 HR1 HX HY
  obtain ⟨m, hm⟩ : ∃ m, m = X.length := ⟨_, rfl⟩
  obtain ⟨m', hm'⟩ : ∃ m, m = Y.length := ⟨_, rfl⟩
  have HM : Hid _ := hm
  have HM' : Hid _ := hm'
  rw [← hm] at hc1 hxl ⊢
  rw [← hm'] at hc2 hyl ⊢
  clear hm hm'
  go_wp2
  go_loopw [7] (fun i wr => ∃ (k n : Nat), k ≤ m ∧ k ≤ m' ∧ i = .int .i64 (k : Int) ∧ X.take k = Y.take k ∧ wr = w2.drewN n) (fun i _ => m - (intOf i).toNat)
  case atStart => exact ⟨0, 0, by omega, by omega, rfl, by simp, rfl⟩
  case round =>
    obtain ⟨k, n, hk, hk', rfl, hpre, rfl⟩ := hrel
    have HP : Hid _ := hpre
    by_cases hlt : k < m
    · by_cases hlt' : k < m'
      · have hl1 : k < X.length := by rw [← HM.out]; exact hlt
        have hl2 : k < Y.length := by rw [← HM'.out]; exact hlt'
        obtain ⟨b1, o1, rfl, hc1⟩ := VRow.at H1.out (k := k) (by rw [iv_len]; exact hl1)
        obtain ⟨b2, o2, rfl, hc2⟩ := VRow.at H2.out (k := k) (by rw [iv_len]; exact hl2)
        obtain ⟨p, hp⟩ : ∃ p, X[k]? = some p := ⟨X[k], List.getElem?_eq_getElem hl1⟩
        obtain ⟨q, hq⟩ : ∃ q, Y[k]? = some q := ⟨Y[k], List.getElem?_eq_getElem hl2⟩
        have hcx := hc1 k _ (iv_get hp)
        have hcy := hc2 k _ (iv_get hq)
        by_cases hpq : p = q
        · subst hpq
          have HT : X.take (k + 1) = Y.take (k + 1) := take_next hpre hp hq
          have HN : Hid _ := HT
          clear hpre hp hq hc1 hc2 HT
          go_wp2_with fail
          go_quiet (fail)
          go_wp2
          go_roundw
          case rel => exact ⟨k + 1, _, by omega, by omega, by go_num, HN.out, rfl⟩
          case measure => simp [intOf]; omega
        · have HF : Hid _ := HD.out (X.take k) (X.drop (k + 1)) (Y.drop (k + 1)) p q (by
              obtain ⟨h1, h2⟩ := List.getElem?_eq_some_iff.1 hp
              rw [← h2, ← List.drop_eq_getElem_cons h1, List.take_append_drop]) (by
              obtain ⟨h1, h2⟩ := List.getElem?_eq_some_iff.1 hq
              rw [hpre, ← h2, ← List.drop_eq_getElem_cons h1, List.take_append_drop]) hpq
          have hne : ((p : Int) != (q : Int)) = true := by simp; omega
          clear hpre hp hq hc1 hc2 hpq
          go_wp2_with fail
          go_quiet (fail)
          go_wp2_with fail
          go_quiet (fail)
          go_wp2
          go_ret
          refine ⟨?_, Below.drewN (Below.drewN (Below.drewN HB2.out _) _) _⟩
          rw [HF.out]
          exact ret_bool (by simp)
      · have e : k = m' := by omega
        subst e
        have HF : Hid _ := HL.out Y (X.drop (k + 1)) (X[k]'(by rw [← HM.out]; exact hlt)) (by
          have h1 : Y = X.take k := by rw [hpre, List.take_of_length_le (by rw [← HM'.out]; omega)]
          have h2 : k < X.length := by rw [← HM.out]; exact hlt
          rw [h1, ← List.drop_eq_getElem_cons h2, List.take_append_drop]) rfl
        have hne : ((m : Int) != (k : Int)) = true := by simp; omega
        clear hpre
        go_wp2
        go_ret
        refine ⟨?_, Below.drewN HB2.out _⟩
        rw [HF.out]
        exact ret_bool (by simp; omega)
    · have e : k = m := by omega
      subst e
      by_cases hlt' : k < m'
      · have HF : Hid _ := HS.out X (Y.drop (k + 1)) (Y[k]'(by rw [← HM'.out]; exact hlt')) rfl (by
          have h1 : X = Y.take k := by rw [← hpre, List.take_of_length_le (by rw [← HM.out]; omega)]
          have h2 : k < Y.length := by rw [← HM'.out]; exact hlt'
          rw [h1, ← List.drop_eq_getElem_cons h2, List.take_append_drop])
        have hne : ((k : Int) != (m' : Int)) = true := by simp; omega
        clear hpre
        go_wp2
        go_ret
        refine ⟨?_, Below.drewN HB2.out _⟩
        rw [HF.out]
        exact ret_bool (by simp <;> omega)
      · have e : k = m' := by omega
        subst e
        have HF : Hid _ := HE.out (by
          have h1 := hpre
          rw [List.take_of_length_le (by rw [← HM.out]; omega), List.take_of_length_le (by rw [← HM'.out]; omega)] at h1
          exact h1)
        clear hpre
        go_wp2
        go_ret
        refine ⟨?_, Below.drewN HB2.out _⟩
        rw [HF.out]
        exact rfl
end Go.Proofs.YtpffjeoiacaihabDoor
