/-
  Walk of text.Words.
-/
import Derived.Test.YtpffjeoiacaihaaDoorFnFold
import Derived.Test.YtpffjeoiacaihaaDoorFnCut
import Derived.Test.YtpffjeoiacaihaaDoorFnLess
import Derived.Test.YtpffjeoiacaihaaDoorFnLeafL
import Derived.Test.YtpffjeoiacaihaaDoorValKit
namespace Go.Proofs.YtpffjeoiacaihaaDoor
open Go.RowKit NumMath
set_option maxRecDepth 100000
set_option linter.unusedVariables false
set_option linter.unusedSimpArgs false

theorem runeLen_enc (r : Nat) (h : TxtMath.valid r = true) : Lib.runeLen (r : Int) = (((TxtMath.enc r).length : Nat) : Int) := by
  have hv : r < 55296 ∨ (57344 ≤ r ∧ r ≤ 1114111) := by simpa [TxtMath.valid] using h
  unfold Lib.runeLen TxtMath.enc
  by_cases h1 : r < 128
  · rw [if_neg (by omega), if_pos (by omega), if_pos h1]; rfl
  · by_cases h2 : r < 2048
    · rw [if_neg (by omega), if_neg (by omega), if_pos (by omega), if_neg h1, if_pos h2]; rfl
    · by_cases h3 : r < 65536
      · rw [if_neg (by omega), if_neg (by omega), if_neg (by omega), if_neg (by omega), if_pos (by omega), if_neg h1, if_neg h2, if_pos h3]; rfl
      · rw [if_neg (by omega), if_neg (by omega), if_neg (by omega), if_neg (by omega), if_neg (by omega), if_pos (by omega), if_neg h1, if_neg h2, if_neg h3]; rfl
/-- What stands between two places of written runes. -/
theorem encs_between (F : List Nat) (j k : Nat) (hjk : j ≤ k) :
    ((TxtMath.encs F).drop (TxtMath.encs (F.take j)).length).take ((TxtMath.encs (F.take k)).length - (TxtMath.encs (F.take j)).length) = TxtMath.encs ((F.take k).drop j) := by
  have h1 : F.take k = F.take j ++ (F.take k).drop j := by
    conv => lhs; rw [← List.take_append_drop j (F.take k)]
    rw [List.take_take, Nat.min_eq_left hjk]
  have h2 : TxtMath.encs (F.take k) = TxtMath.encs (F.take j) ++ TxtMath.encs ((F.take k).drop j) := by
    conv => lhs; rw [h1]
    rw [TxtMath.encs_append]
  have h3 : TxtMath.encs F = TxtMath.encs (F.take k) ++ TxtMath.encs (F.drop k) := by
    conv => lhs; rw [← List.take_append_drop k F]
    rw [TxtMath.encs_append]
  rw [h3, h2]
  simp
theorem encs_mono (F : List Nat) (j k : Nat) (hjk : j ≤ k) : (TxtMath.encs (F.take j)).length ≤ (TxtMath.encs (F.take k)).length ∧ (k ≤ F.length → j < k → (TxtMath.encs (F.take j)).length < (TxtMath.encs (F.take k)).length) := by
  have h1 : F.take k = F.take j ++ (F.take k).drop j := by
    conv => lhs; rw [← List.take_append_drop j (F.take k)]
    rw [List.take_take, Nat.min_eq_left hjk]
  have h2 : TxtMath.encs (F.take k) = TxtMath.encs (F.take j) ++ TxtMath.encs ((F.take k).drop j) := by
    conv => lhs; rw [h1]
    rw [TxtMath.encs_append]
  have h3 := TxtMath.encs_len_ge ((F.take k).drop j)
  rw [h2]
  simp at h3 ⊢
  intro h4 h5
  omega
theorem drop_take_nil (F : List Nat) (k : Nat) : (F.take k).drop k = [] := List.drop_eq_nil_of_le (by simp; omega)
theorem drop_take_ne (F : List Nat) (j k : Nat) (h : j < k) (hk : k ≤ F.length) : (F.take k).drop j ≠ [] := by
  intro e
  have := congrArg List.length e
  simp at this; omega
theorem drop_take_succ (F : List Nat) (j k r : Nat) (hj : j ≤ k) (h : F[k]? = some r) : (F.take (k + 1)).drop j = (F.take k).drop j ++ [r] := by
  obtain ⟨h1, h2⟩ := List.getElem?_eq_some_iff.1 h
  rw [List.take_succ_eq_append_getElem h1, h2, List.drop_append_of_le_length (by simp; omega)]

theorem Own.iterAt {w : World} {base e g : Nat} {v : Value} {vs : List Value} (h : Own w base e v vs) (hg : g < base) (s : ByteArray) (p : Nat) : Own (w.iterAt g s p) base e v vs := by
  refine ⟨h.1, ?_⟩
  rcases h.2 with h | ⟨g', cap, cur, h1, h2, h3, h4⟩
  · exact .inl h
  · refine .inr ⟨g', cap, cur, h1, h2, ?_, h4⟩
    rw [Lib.iterAt_other w g g' _ _ (by omega)]
    exact h3
theorem words_len : ∀ (l cur : List Nat), (TxtMath.wordsGo cur l).length ≤ l.length + 1
  | [], cur => by unfold TxtMath.wordsGo; split <;> simp
  | r :: t, cur => by
    unfold TxtMath.wordsGo
    split
    · have := words_len t (cur ++ [r]); simp; omega
    · have := words_len t []
      simp only [List.length_append, List.length_cons]
      split <;> simp <;> omega

set_option maxRecDepth 100000 in
set_option maxHeartbeats 4000000 in
theorem words_any (l : List Nat) (w : World) (hb : ∀ c ∈ l, c < 256) (hm : 4 * l.length + 8 ≤ 17592186044000) :
    Calls Tryd.prog 40 #[.string (strN l)] w fun e w' => ∃ v, e = .returned v ∧ Own w' w.heap.size 9 v (sv (TxtMath.wordsB l)) ∧ Below w.heap.size w w' := by
  have HF : Hid (∀ w, _) := fun w => fold_any l w hb (by omega)
  have HQ : Hid (TxtMath.wordsB l = (TxtMath.wordsR (TxtMath.foldR l)).map TxtMath.encs) := rfl
  have eF : TxtMath.foldB l = TxtMath.encs (TxtMath.foldR l) := rfl
  have hFv := TxtMath.fold_ok l
  have hFl : (TxtMath.foldR l).length ≤ l.length := by unfold TxtMath.foldR; rw [List.length_map]; exact TxtMath.runes_len_le l
  rw [eF] at HF
  generalize TxtMath.foldR l = F at *
  have hcb := TxtMath.encs_lt F hFv
  have hcl := TxtMath.encs_len_le F
  have hwl := words_len F []
  obtain ⟨c, hc⟩ : ∃ c, c = TxtMath.encs F := ⟨_, rfl⟩
  have Hc : Hid _ := hc
  rw [← hc] at hcb hcl HF
  have hszc := strN_size c
  clear hc eF
  go_enter Tryd.func40, Tryd.ntmps40
  go_wp2_with fail
  refine Calls.mono (HF.out _) ?_
  rintro e w1 ⟨rfl, h1⟩
  have hs1 := h1.size
  have HI0 : Hid (Iter (w1.iter (strN c) 0) w1.heap.size c 0) := Iter.new w1 c _ rfl
  have HB0 : Hid (Below w.heap.size w (w1.iter (strN c) 0)) := h1.alloc hs1 _
  clear h1 HF
  go_wp2
  obtain ⟨g, hg⟩ : ∃ g, g = w1.heap.size := ⟨_, rfl⟩
  have hg1 : g < (w1.iter (strN c) 0).heap.size := by rw [hg]; exact HI0.out.lt
  rw [← hg] at hs1 HI0 ⊢
  clear hg
  generalize w1.iter (strN c) 0 = w2 at *
  go_loopw [3, 5] (fun out st wr => ∃ (k j pos s : Nat) (ws : List (List Nat)), st = .int .i64 (s : Int) ∧ s = (TxtMath.encs (F.take j)).length ∧ pos = (TxtMath.encs (F.take k)).length ∧ j ≤ k ∧ k ≤ F.length ∧ Own wr w2.heap.size 9 out (sv (ws.map TxtMath.encs)) ∧ Iter wr g c pos ∧ Below w.heap.size w wr ∧ w2.heap.size ≤ wr.heap.size ∧
      ws ++ TxtMath.wordsGo ((F.take k).drop j) (F.drop k) = TxtMath.wordsR F) (fun _ _ wr => c.length - wr.iterPos g)
  case atStart => exact ⟨0, 0, 0, 0, [], rfl, by simp [TxtMath.encs], by simp [TxtMath.encs], by omega, by omega, Own.nil _ _ _, HI0.out, HB0.out, Nat.le_refl _, by simp [TxtMath.wordsR]⟩
  case round =>
    clear HI0 HB0
    obtain ⟨k, j, pos, s, ws, rfl, hs, hpos, hjk, hkF, hown, hit, hbw, hsz2, hws⟩ := hrel
    have hwl2 : ws.length ≤ F.length + 1 := by
      have h1 := congrArg List.length hws
      unfold TxtMath.wordsR at h1
      simp at h1; omega
    have hsp := encs_mono F j k hjk
    have hpc : pos ≤ c.length := by
      have := (encs_mono F k F.length hkF).1
      rw [List.take_of_length_le (Nat.le_refl _)] at this
      rw [hpos, Hc.out]; exact this
    rw [← hs, ← hpos] at hsp
    have hlt := hit.lt
    have HIT : Hid _ := hit
    have HBW : Hid _ := hbw
    have HO : Hid _ := hown
    have HW : Hid _ := hws
    have HS : Hid _ := hs
    have HP : Hid _ := hpos
    by_cases hp : pos < c.length
    · have hk : k < F.length := by rw [hpos, Hc.out] at hp; exact (encs_take_lt F k).1 hp
      obtain ⟨r, n', hnx, hv, hr, hn', hpn, hru, hdec⟩ := next_some hit hcb hp
      obtain ⟨r2, hd1, hd2, hd3, hd4⟩ := dec_encs F hFv k hk
      have hrr : r = r2 ∧ n' = (TxtMath.enc r2).length := by
        rw [hpos, Hc.out, hd3] at hdec
        exact ⟨by simpa using (congrArg Prod.fst hdec).symm, by simpa using (congrArg Prod.snd hdec).symm⟩
      obtain ⟨rfl, hnw⟩ := hrr
      have hFk : F[k]? = some r := by
        have := congrArg (fun l => l[0]?) hd1
        simpa using this
      have HP2 : Hid (pos + n' = (TxtMath.encs (F.take (k + 1))).length) := by show _ = _; rw [hd4, ← hpos, ← hnw]
      have HI2 : Hid _ := hit.set (pos + n')
      have HB2 : Hid _ := Lib.below_iterAt hbw (k := g) (by omega) (strN c) (pos + n')
      have HO2 : Hid _ := Own.iterAt hown hg1 (strN c) (pos + n')
      have hsz3 : w2.heap.size ≤ (wr.iterAt g (strN c) (pos + n')).heap.size := by rw [Lib.iterAt_size]; exact hsz2
      have HM : Hid (c.length - (pos + n') < c.length - wr.iterPos g) := by
        show _ < _; rw [Iter.pos HIT.out]; omega
      have HD : Hid _ := hd1
      have HFK : Hid _ := hFk
      have hrl : Lib.runeLen (r : Int) = (n' : Int) := by rw [runeLen_enc r hv, hnw]
      clear hit hbw hown hru hdec hpos hd1 hd2 hd3 hd4 hnw hFk hs hws
      generalize wr.iterAt g (strN c) (pos + n') = w3 at *
      cases hle : TxtMath.letter r with
      | true =>
        go_wp2_with (go_at_call 60; refine (isLetter_any r _ hr).mono ?_; rintro e w4 ⟨rfl, rfl⟩)
        go_roundw
        case rel =>
          refine ⟨k + 1, j, pos + n', s, ws, rfl, HS.out, HP2.out, by omega, by omega, HO2.out, HI2.out, HB2.out, hsz3, ?_⟩
          rw [← HW.out, HD.out, drop_take_succ F j k r hjk HFK.out]
          conv => rhs; rw [TxtMath.wordsGo, if_pos hle]
        case measure => rw [Iter.pos HI2.out]; exact HM.out
      | false =>
        by_cases hst : j < k
        · have hsp2 : s < pos := hsp.2 hkF hst
          have hsl : ∀ w, (Instr.sliceAt 9 (.string (strN c)) (some (.int .i64 (s : Int))) (some (.int .i64 (pos : Int))) none).run Tryd.prog w = .ok (.string (strN (TxtMath.encs ((F.take k).drop j)))) w := by
            intro w
            rw [run_slice_strN c .i64 .i64 s pos (by omega) (by omega), HS.out, HP.out, Hc.out, encs_between F j k hjk]
          go_wp2_with (first | (go_at_call 60; refine (isLetter_any r _ hr).mono ?_; rintro e w4 ⟨rfl, rfl⟩) | (go_at_call 61; refine (utf8_RuneLen r _).mono ?_; rintro e w6 ⟨rfl, rfl⟩) | (at_builtin; refine wpList_app_str rfl _ _ rfl w2.heap.size _ (sv (ws.map TxtMath.encs)) (.string (strN (TxtMath.encs ((F.take k).drop j)))) rfl (Own.alloc HO2.out _) _ rfl (by simp) rfl (by rw [sv_len, List.length_map]; omega) (by simp; omega) ?_; intro v5 w5 hown5 hgrow5; have HO5 : Hid (Own w5 w2.heap.size 9 v5 (sv ((ws ++ [(F.take k).drop j]).map TxtMath.encs))) := (by show Own _ _ _ _ _; rw [List.map_append, sv_append]; exact hown5); have HBB : Hid (Below w2.heap.size w4 w5) := Own.below (Own.alloc HO2.out _) hgrow5 ((Below.refl _ w4).alloc hsz3 _) (by simp; omega); clear hown5 hgrow5))
          go_roundw
          case rel =>
            refine ⟨k + 1, k + 1, pos + n', pos + n', ws ++ [(F.take k).drop j], by simp, HP2.out, HP2.out, by omega, by omega, HO5.out, Iter.below HI2.out HBB.out hg1, HB2.out.trans (HBB.out.mono (by omega)), Nat.le_trans hsz3 HBB.out.size, ?_⟩
            rw [← HW.out, HD.out, drop_take_nil]
            conv => rhs; rw [TxtMath.wordsGo, hle]
            simp [drop_take_ne F j k hst hkF]
          case measure => rw [Iter.pos (Iter.below HI2.out HBB.out hg1)]; exact HM.out
        · have hjk2 : j = k := by omega
          subst hjk2
          have hsp3 : s = pos := by rw [HS.out, HP.out]
          have HSP : Hid _ := hsp3
          have hsp4 : ¬ s < pos := by omega
          clear hsp3
          go_wp2_with (first | (go_at_call 60; refine (isLetter_any r _ hr).mono ?_; rintro e w4 ⟨rfl, rfl⟩) | (go_at_call 61; refine (utf8_RuneLen r _).mono ?_; rintro e w6 ⟨rfl, rfl⟩))
          go_roundw
          case rel =>
            refine ⟨j + 1, j + 1, pos + n', pos + n', ws, by simp, HP2.out, HP2.out, by omega, by omega, HO2.out, HI2.out, HB2.out, hsz3, ?_⟩
            rw [← HW.out, HD.out, drop_take_nil, drop_take_nil]
            conv => rhs; rw [TxtMath.wordsGo, hle]
            simp
          case measure => rw [Iter.pos HI2.out]; exact HM.out
    · have hnx := next_none (l := c) hit hp
      have hk : k = F.length := by
        rcases Nat.lt_or_ge k F.length with h | h
        · exfalso; apply hp; rw [hpos, Hc.out]; exact (encs_take_lt F k).2 h
        · omega
      have hpc2 : pos = c.length := by omega
      have hD : F.drop k = [] := List.drop_eq_nil_of_le (by omega)
      by_cases hst : j < k
      · have hsp2 : s < c.length := by have := hsp.2 hkF hst; omega
        have hsl : ∀ w, (Instr.sliceAt 9 (.string (strN c)) (some (.int .i64 (s : Int))) none none).run Tryd.prog w = .ok (.string (strN (TxtMath.encs ((F.take k).drop j)))) w := by
          intro w
          rw [run_slice_strN1 c .i64 s (by omega), HS.out, ← encs_between F j k hjk, ← HP.out, ← HS.out, Hc.out, List.take_of_length_le]
          rw [List.length_drop, hpc2, Hc.out]
          exact Nat.le_refl _
        have HWW : Hid (ws ++ [(F.take k).drop j] = TxtMath.wordsR F) := by
          show _ = _
          rw [← HW.out, hD]
          simp [TxtMath.wordsGo, drop_take_ne F j k hst hkF]
        clear hit hbw hown hpos hs hws hD hpc2 hk
        go_wp2_with (at_builtin; refine wpList_app_str rfl _ _ rfl w2.heap.size _ (sv (ws.map TxtMath.encs)) (.string (strN (TxtMath.encs ((F.take k).drop j)))) rfl (Own.alloc HO.out _) _ rfl (by simp) rfl (by rw [sv_len, List.length_map]; omega) (by simp; omega) ?_; intro v5 w5 hown5 hgrow5)
        have HO5 : Hid (Own w5 w2.heap.size 9 v5 (sv ((ws ++ [(F.take k).drop j]).map TxtMath.encs))) := by show Own _ _ _ _ _; rw [List.map_append, sv_append]; exact hown5
        have HBB : Hid (Below w2.heap.size wr w5) := Own.below (Own.alloc HO.out _) hgrow5 ((Below.refl _ wr).alloc hsz2 _) (by simp; omega)
        clear hown5 hgrow5
        go_wp2
        go_ret
        refine ⟨_, rfl, ?_, HBW.out.trans (HBB.out.mono (by omega))⟩
        rw [HQ.out, ← HWW.out]
        exact Own.mono HO5.out (by omega)
      · have hjk2 : j = k := by omega
        subst hjk2
        have hsp3 : ¬ s < c.length := by have : s = pos := by rw [HS.out, HP.out]
                                         omega
        have HWW : Hid (ws = TxtMath.wordsR F) := by
          show _ = _
          rw [← HW.out, hD, drop_take_nil]
          simp [TxtMath.wordsGo]
        clear hit hbw hown hpos hs hws hD hpc2 hk
        go_wp2
        go_ret
        refine ⟨_, rfl, ?_, HBW.out⟩
        rw [HQ.out, ← HWW.out]
        exact Own.mono HO.out (by omega)
end Go.Proofs.YtpffjeoiacaihaaDoor
