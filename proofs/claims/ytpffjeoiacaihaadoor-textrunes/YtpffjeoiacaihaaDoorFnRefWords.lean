/-
  Walk of newsreelref4.Words.
-/
import Derived.Test.YtpffjeoiacaihaaDoorFnWords
import Derived.Test.YtpffjeoiacaihaaDoorOwnLater
import Derived.Test.YtpffjeoiacaihaaDoorFnRefFold
import Derived.Test.YtpffjeoiacaihaaDoorFnLeafT
namespace Go.Proofs.YtpffjeoiacaihaaDoor
open Go.RowKit NumMath
set_option maxRecDepth 100000
set_option linter.unusedVariables false
set_option linter.unusedSimpArgs false

theorem iv_drop (a : List Nat) (j : Nat) : iv (a.drop j) = (iv a).drop j := by simp [iv]
theorem VRow.drop {w : World} {b off : Nat} {vs : List Value} (h : ∀ i v, vs[i]? = some v → w.cell? ⟨b, off + i, none⟩ = some v) (j : Nat) : VRow w (some ⟨b, off + j, none⟩) (vs.drop j) := by
  refine .inr ⟨b, off + j, rfl, fun i v hi => ?_⟩
  rw [List.getElem?_drop] at hi
  have := h (j + i) v hi
  rw [show off + j + i = off + (j + i) by omega]
  exact this

set_option maxRecDepth 100000 in
set_option maxHeartbeats 4000000 in
theorem refWords_any (l : List Nat) (w : World) (hb : ∀ c ∈ l, c < 256) (hm : 4 * l.length + 8 ≤ 17592186044000) :
    Calls Tryd.prog 41 #[.string (strN l)] w fun e w' => ∃ v, e = .returned v ∧ Own w' w.heap.size 9 v (sv (TxtMath.wordsB l)) ∧ Below w.heap.size w w' := by
  have HF : Hid (∀ w, _) := fun w => refFoldR_any l w hb (by omega)
  have HQ : Hid (TxtMath.wordsB l = (TxtMath.wordsR (TxtMath.foldR l)).map TxtMath.encs) := rfl
  have hFv := TxtMath.fold_ok l
  have hFl : (TxtMath.foldR l).length ≤ l.length := by unfold TxtMath.foldR; rw [List.length_map]; exact TxtMath.runes_len_le l
  generalize TxtMath.foldR l = F at *
  go_enter Tryd.func41, Tryd.ntmps41
  go_wp2_with fail
  refine Calls.mono (HF.out _) ?_
  rintro e w1 ⟨v1, rfl, ho1, hb1⟩
  have HB1 : Hid _ := hb1
  have HO1 : Hid _ := ho1
  have hs1 := hb1.size
  clear ho1 hb1 HF
  go_wp2_with (at_builtin; refine wpList_app_int rfl _ _ rfl w.heap.size _ (iv F) (.int .i64 32) rfl (Own.alloc HO1.out _) _ rfl (by simp) rfl (by rw [iv_len]; omega) (by simp; omega) ?_; intro v3 w3 hown3 hgrow3)
  have HB3 : Hid (Below w.heap.size w w3) := Own.below (Own.alloc HO1.out _) hgrow3 (HB1.out.alloc hs1 _) (by simp; omega)
  obtain ⟨L, hL⟩ : ∃ L, L = F ++ [32] := ⟨_, rfl⟩
  have ho3 : Own w3 w.heap.size 3 v3 (iv L) := by rw [hL, iv_append]; exact hown3
  obtain ⟨ao, cap, rfl, hc, hcm, _, hrow⟩ := ho3.shape
  rw [iv_len] at hc ⊢
  have hLv : ∀ r ∈ L, TxtMath.valid r = true := by
    intro r hr
    rw [hL] at hr
    rcases List.mem_append.1 hr with h | h
    · exact hFv r h
    · simp at h; subst h; decide
  obtain ⟨m, hmL⟩ : ∃ m, m = L.length := ⟨_, rfl⟩
  have hmF : m = F.length + 1 := by rw [hmL, hL]; simp
  have HWL : Hid (TxtMath.wordsR F = TxtMath.wordsR L) := by show _ = _; rw [hL]; exact (TxtMath.words_last F []).symm
  have HLast : Hid (∀ i, i + 1 = m → L[i]? = some 32) := by
    intro i hi
    rw [hL, List.getElem?_append_right (by omega)]
    have : i - F.length = 0 := by omega
    rw [this]; rfl
  have HM : Hid _ := hmL
  have HROW : Hid _ := hrow
  have hwl := words_len L []
  rw [← hmL] at hc hwl ⊢
  have hm2 : m ≤ l.length + 1 := by omega
  have hmpos : 0 < m := by omega
  have hs3 := HB3.out.size
  unfold maxLen at hcm
  clear hown3 hgrow3 ho3 hrow hL hmL hmF HO1 HB1
  go_wp2
  go_loopw [4, 5, 6] (fun out fr i wr => ∃ (k j : Nat) (ws : List (List Nat)), i = .int .i64 (k : Int) ∧ fr = .int .i64 (j : Int) ∧ j ≤ k ∧ k ≤ m ∧ (k = m → j = k) ∧ Own wr w3.heap.size 9 out (sv (ws.map TxtMath.encs)) ∧ Below w3.heap.size w3 wr ∧ ws ++ TxtMath.wordsGo ((L.take k).drop j) (L.drop k) = TxtMath.wordsR L) (fun _ _ i _ => m - (intOf i).toNat)
  case atStart => exact ⟨0, 0, [], rfl, rfl, by omega, by omega, by omega, Own.nil _ _ _, Below.refl _ _, by simp [TxtMath.wordsR]⟩
  case round =>
    obtain ⟨k, j, ws, rfl, rfl, hjk, hkm, hend, hown, hbw, hws⟩ := hrel
    have hwl2 : ws.length ≤ m + 1 := by
      have h1 := congrArg List.length hws
      unfold TxtMath.wordsR at h1
      simp at h1; omega
    have HO : Hid _ := hown
    have HB : Hid _ := hbw
    have HW : Hid _ := hws
    have HEND : Hid _ := hend
    have hsr := hbw.size
    by_cases hlt : k < m
    · have hkl : k < L.length := by rw [← HM.out]; exact hlt
      obtain ⟨b, off, rfl, hcell⟩ := VRow.at HROW.out (k := k) (by rw [iv_len]; exact hkl)
      obtain ⟨r, hrk⟩ : ∃ r, L[k]? = some r := ⟨L[k], List.getElem?_eq_getElem hkl⟩
      have HC0 : Hid _ := hcell k _ (iv_get hrk)
      have hcx := cell_later HC0.out hbw
      have hr := TxtMath.valid_le (hLv r (List.mem_of_getElem? hrk))
      have HRK : Hid _ := hrk
      have HD : Hid (L.drop k = r :: L.drop (k + 1)) := by
        show _ = _
        obtain ⟨h1, h2⟩ := List.getElem?_eq_some_iff.1 hrk
        rw [← h2]; exact List.drop_eq_getElem_cons hkl
      have HLST : Hid (k + 1 = m → r = 32) := fun h => by
        have h1 := HLast.out k h
        rw [hrk] at h1
        exact Option.some.inj h1
      have HCL : Hid _ := hcell
      clear hcell hrk hown hbw hws hend
      cases hle : TxtMath.letter r with
      | true =>
        go_wp2_with (go_at_call 62; refine (letter_any r _ hr).mono ?_; rintro e w4 ⟨rfl, rfl⟩)
        go_roundw
        case rel =>
          refine ⟨k + 1, j, ws, by simp, rfl, by omega, by omega, ?_, HO.out, HB.out, ?_⟩
          · intro h
            have := HLST.out h
            subst this
            exact absurd hle (by decide)
          · rw [← HW.out, HD.out, drop_take_succ L j k r hjk HRK.out]
            conv => rhs; rw [TxtMath.wordsGo, if_pos hle]
        case measure => simp [intOf]; omega
      | false =>
        by_cases hst : j < k
        · have HOF : Hid (∀ W, Below w3.heap.size w3 W → Calls Tryd.prog 38 #[.slice (some ⟨b, off + j, none⟩) (k - j) (cap - j)] W fun e w' => e = .returned (.string (strN (TxtMath.encs ((L.take k).drop j)))) ∧ Below W.heap.size W w') := by
            intro W hW
            have hlen : ((L.take k).drop j).length = k - j := by simp; omega
            have := of_any (some ⟨b, off + j, none⟩) (cap - j) ((L.take k).drop j) W (by
                rw [iv_drop, iv_take]
                refine VRow.drop (fun i v hi => ?_) j
                rw [List.getElem?_take] at hi
                split at hi
                · exact cell_later (HCL.out i v hi) hW
                · cases hi) (fun r hr => hLv r (List.mem_of_mem_take (List.mem_of_mem_drop hr))) (by omega) (by unfold maxLen; omega) (by omega)
            rw [hlen] at this
            exact this
          go_wp2_with (first | (go_at_call 62; refine (letter_any r _ hr).mono ?_; rintro e w4 ⟨rfl, rfl⟩) | (go_at_call 38; refine Calls.mono (HOF.out _ HB.out) ?_; rintro e w5 ⟨rfl, hb5⟩; have HB5 : Hid _ := HB.out.trans (hb5.mono HB.out.size); have HO5 : Hid _ := Own.later HO.out hb5; have hs5 := HB5.out.size; clear hb5) | (at_builtin; refine wpList_app_str rfl _ _ rfl w3.heap.size _ (sv (ws.map TxtMath.encs)) (.string (strN (TxtMath.encs ((L.take k).drop j)))) rfl (Own.alloc HO5.out _) _ rfl (by simp) rfl (by rw [sv_len, List.length_map]; omega) (by simp; omega) ?_; intro v6 w6 hown6 hgrow6; have HO6 : Hid (Own w6 w3.heap.size 9 v6 (sv ((ws ++ [(L.take k).drop j]).map TxtMath.encs))) := (by show Own _ _ _ _ _; rw [List.map_append, sv_append]; exact hown6); have HB6 : Hid (Below w3.heap.size w3 w6) := Own.below (Own.alloc HO5.out _) hgrow6 (HB5.out.alloc hs5 _) (by simp; omega); clear hown6 hgrow6))
          go_roundw
          case rel =>
            refine ⟨k + 1, k + 1, ws ++ [(L.take k).drop j], by simp, by simp, by omega, by omega, by omega, HO6.out, HB6.out, ?_⟩
            rw [← HW.out, HD.out, drop_take_nil]
            conv => rhs; rw [TxtMath.wordsGo, hle]
            simp [drop_take_ne L j k hst (by rw [← HM.out]; exact hkm)]
          case measure => simp [intOf]; omega
        · have hjk2 : j = k := by omega
          subst hjk2
          go_wp2_with (go_at_call 62; refine (letter_any r _ hr).mono ?_; rintro e w4 ⟨rfl, rfl⟩)
          go_roundw
          case rel =>
            refine ⟨j + 1, j + 1, ws, by simp, by simp, by omega, by omega, by omega, HO.out, HB.out, ?_⟩
            rw [← HW.out, HD.out, drop_take_nil, drop_take_nil]
            conv => rhs; rw [TxtMath.wordsGo, hle]
            simp
          case measure => simp [intOf]; omega
    · have e : k = m := by omega
      have hjk2 := hend e
      subst hjk2
      subst e
      clear hown hbw hws hend
      go_wp2
      go_ret
      refine ⟨_, rfl, ?_, HB3.out.trans (HB.out.mono hs3)⟩
      have h1 := HW.out
      rw [drop_take_nil, List.drop_eq_nil_of_le (by rw [← HM.out]; omega)] at h1
      simp [TxtMath.wordsGo] at h1
      rw [HQ.out, HWL.out, ← h1]
      exact Own.mono HO.out hs3
end Go.Proofs.YtpffjeoiacaihaaDoor
