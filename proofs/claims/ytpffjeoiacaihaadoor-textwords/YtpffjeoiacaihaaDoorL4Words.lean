/-
  Walk of newsreellaw4.TextWords.
-/
import Derived.Test.YtpffjeoiacaihaaDoorL4Kit2
import Derived.Test.YtpffjeoiacaihaaDoorL4Twice
namespace Go.Proofs.YtpffjeoiacaihaaDoor
open Go.RowKit NumMath
set_option maxRecDepth 100000
set_option linter.unusedVariables false
set_option linter.unusedSimpArgs false

theorem joinB_take (ws : List (List Nat)) (k : Nat) (t : List Nat) (h : ws[k]? = some t) : TxtMath.joinB (ws.take (k + 1)) = TxtMath.joinB (ws.take k) ++ (32 :: t) := by
  obtain ⟨h1, h2⟩ := List.getElem?_eq_some_iff.1 h
  rw [List.take_succ_eq_append_getElem h1, h2]
  simp [TxtMath.joinB]
theorem joinB_pre (ws : List (List Nat)) (k : Nat) : (TxtMath.joinB (ws.take k)).length ≤ (TxtMath.joinB ws).length := by
  have e : TxtMath.joinB ws = TxtMath.joinB (ws.take k) ++ TxtMath.joinB (ws.drop k) := by
    unfold TxtMath.joinB
    rw [← List.flatMap_append, List.take_append_drop]
  rw [e, List.length_append]; omega
theorem joinB_lt (ws : List (List Nat)) (h : ∀ t ∈ ws, ∀ c ∈ t, c < 256) : ∀ c ∈ TxtMath.joinB ws, c < 256 := by
  intro c hc
  simp only [TxtMath.joinB, List.mem_flatMap] at hc
  obtain ⟨t, ht, hc⟩ := hc
  rcases List.mem_cons.1 hc with h1 | h1
  · omega
  · exact h t ht c h1
/-- Words one behind another are no longer than the text. -/
theorem words_sum : ∀ (l cur : List Nat), ((TxtMath.wordsGo cur l).flatMap fun w => 32 :: w).length ≤ 2 * l.length + cur.length + 1
  | [], cur => by unfold TxtMath.wordsGo; split <;> simp
  | r :: t, cur => by
    unfold TxtMath.wordsGo
    split
    · have := words_sum t (cur ++ [r]); simp at this ⊢; omega
    · have := words_sum t []
      rw [List.flatMap_append, List.length_append]
      split
      · simp at this ⊢; omega
      · simp at this ⊢; omega
theorem joinB_len (l : List Nat) : (TxtMath.joinB (TxtMath.wordsB l)).length ≤ 4 * (2 * l.length + 1) := by
  unfold TxtMath.wordsB
  rw [← TxtMath.encs_join]
  have h1 := TxtMath.encs_len_le ((TxtMath.wordsR (TxtMath.foldR l)).flatMap fun w => 32 :: w)
  have h2 := words_sum (TxtMath.foldR l) []
  have h3 : (TxtMath.foldR l).length ≤ l.length := by unfold TxtMath.foldR; rw [List.length_map]; exact TxtMath.runes_len_le l
  unfold TxtMath.wordsR at h1 ⊢
  simp only [List.length_nil, Nat.add_zero] at h2
  omega

set_option maxRecDepth 100000 in
set_option maxHeartbeats 4000000 in
theorem textWords_walk (s0 : ByteArray) (a1 : Option Addr) (xs1 : List Int) (cap1 : Nat) (W : World) (ht : Tab W) (hs0 : s0.size ≤ 140737488355328) (hr1 : Row .u16 W a1 xs1) (hc1 : xs1.length ≤ cap1) (hm1 : cap1 ≤ maxLen) (hn1 : a1 = none → cap1 = 0) (hw1 : ∀ n ∈ xs1, (Lit.int .u16 n).wf = true) (hs1 : cap1 * 2 ≤ 140737488351232) :
    Calls Tryd.prog 14 #[.string s0, .slice a1 xs1.length cap1] W fun e W' => e = .returned (.bool true) ∧ Below W.heap.size W W' := by
  obtain ⟨l, hl, rfl⟩ := any_str s0
  obtain ⟨ns, rfl, hns⟩ := nats16 hw1
  have hrow := vrow16 hr1
  rw [List.length_map] at hc1 ⊢
  have HK : Hid _ := known_any W ht
  unfold maxLen at hm1
  obtain ⟨n, hn⟩ : ∃ n, n = ns.length := ⟨_, rfl⟩
  have HN : Hid _ := hn
  have HR : Hid _ := hrow
  rw [← hn] at hc1 ⊢
  clear hr1 hw1 hn1 hn hrow ht
  have hsz := strN_size l
  by_cases hbig : l.length ≤ 2000 ∧ n ≤ 700
  · obtain ⟨hl1, hn1⟩ := hbig
    have HT : Hid (∀ w, Below W.heap.size W w → Calls Tryd.prog 27 #[.slice a1 n cap1] w fun e w' => e = .returned (.string (strN (seatT ns))) ∧ Below w.heap.size w w') := by
      intro w hw
      have := seatRunes_any a1 cap1 ns w (VRow.later HR.out hw) hns (by rw [← HN.out]; exact hc1) (by unfold maxLen; omega) (by rw [← HN.out]; omega)
      rw [← HN.out] at this
      exact this
    have htl := seatT_len ns
    rw [← HN.out] at htl
    have htb := seatT_lt ns
    generalize seatT ns = T at *
    have hsum := sum_strN T l (by omega)
    have hSb := app_lt htb hl
    have hSl : (T ++ l).length ≤ 4800 := by rw [List.length_append]; omega
    generalize T ++ l = S at *
    have hfl := foldB_len S
    have hfb := foldB_lt S
    have hjl := joinB_len S
    have hjb := joinB_lt _ (wordsB_lt S)
    have hwl := wordsB_len S
    have HF1 : Hid (∀ w, _) := fun w => words_any S w hSb (by omega)
    have HF2 : Hid (∀ w, _) := fun w => refWords_any S w hSb (by omega)
    have HF3 : Hid (∀ w, _) := fun w => words_any (TxtMath.joinB (TxtMath.wordsB S)) w hjb (by omega)
    have HF4 : Hid (∀ w, _) := fun w => fold_any S w hSb (by omega)
    have HF5 : Hid (∀ w, _) := fun w => words_any (TxtMath.foldB S) w hfb (by omega)
    rw [TxtMath.words_all] at HF3
    rw [TxtMath.words_fold] at HF5
    have HWb : Hid _ := wordsB_lt S
    generalize TxtMath.wordsB S = ws at *
    have HTX : Hid (∀ (y : World) b1 b2 c1 c2, VRow y b1 (sv ws) → VRow y b2 (sv ws) → ws.length ≤ c1 → c1 ≤ maxLen → ws.length ≤ c2 → c2 ≤ maxLen → Calls Tryd.prog 39 #[.slice b1 ws.length c1, .slice b2 ws.length c2] y fun e w' => e = .returned (.bool true) ∧ Below y.heap.size y w') := by
      intro y b1 b2 c1 c2 h1 h2 h3 h4 h5 h6
      have := texts_any b1 b2 c1 c2 ws ws y h1 h2 HWb.out HWb.out h3 h4 h5 h6
      rwa [decide_eq_true rfl] at this
    go_enter Tryd.func14, Tryd.ntmps14
    go_wp2_with fail
    refine Calls.mono HK.out ?_
    rintro e x0 ⟨rfl, hb⟩
    have HXa : Hid _ := hb
    clear hb
    go_wp2_with fail
    refine Calls.mono (HT.out _ HXa.out) ?_
    rintro e x1 ⟨rfl, hb⟩
    have HXb : Hid _ := HXa.out.trans (hb.mono HXa.out.size)
    clear hb
    go_wp2_with fail
    refine Calls.mono (HF1.out _) ?_
    rintro e y1 ⟨v1, rfl, ho1, hb⟩
    obtain ⟨b1, c1, rfl, hc1, hcm1, hnn1, hr1⟩ := ho1.shape
    rw [sv_len] at hc1 ⊢
    have HY1 : Hid _ := HXb.out.trans (hb.mono HXb.out.size)
    have HR1 : Hid _ := hr1
    clear hb ho1 hr1
    obtain ⟨m, hm⟩ : ∃ m, m = ws.length := ⟨_, rfl⟩
    have HM : Hid _ := hm
    rw [← hm] at hc1 hwl HTX ⊢
    have hcm1' : c1 ≤ 9223372036854775807 := by unfold maxLen at hcm1; omega
    clear hm
    go_wp2
    go_loopw [6, 7] (fun al i wr => ∃ k : Nat, k ≤ m ∧ i = .int .i64 (k : Int) ∧ al = .string (strN (TxtMath.joinB (ws.take k))) ∧ wr = y1) (fun _ i _ => m - (intOf i).toNat)
    case atStart => exact ⟨0, by omega, rfl, by simp [TxtMath.joinB]; rfl, rfl⟩
    case round =>
      obtain ⟨k, hk, rfl, rfl, rfl⟩ := hrel
      by_cases hlt : k < m
      · have hkl : k < ws.length := by rw [← HM.out]; exact hlt
        obtain ⟨b, off, rfl, hcell⟩ := VRow.at HR1.out (k := k) (by rw [sv_len]; exact hkl)
        obtain ⟨t, htk⟩ : ∃ t, ws[k]? = some t := ⟨ws[k], List.getElem?_eq_getElem hkl⟩
        have hcx := hcell k _ (sv_get htk)
        have hjn := joinB_take ws k t htk
        have hjp := joinB_pre ws (k + 1)
        rw [hjn, List.length_append, List.length_cons] at hjp
        have HJ : Hid _ := hjn
        obtain ⟨hq1, hq2⟩ := sp_sum (TxtMath.joinB (ws.take k)) t (by omega)
        rw [← hjn] at hq2
        clear hcell htk hjn
        go_wp2
        go_roundw
        case rel => exact ⟨k + 1, by omega, by simp, rfl, trivial⟩
        case measure => simp [intOf]; omega
      · have e : k = m := by omega
        subst e
        have hall : ws.take k = ws := List.take_of_length_le (by rw [← HM.out]; omega)
        rw [hall]
        clear hall
        go_wp2_with fail
        refine Calls.mono (HF2.out _) ?_
        rintro e y2 ⟨v2, rfl, ho2, hb⟩
        obtain ⟨b2, c2, rfl, hc2, hcm2, hnn2, hr2⟩ := ho2.shape
        rw [sv_len] at hc2 ⊢
        rw [← HM.out] at hc2 ⊢
        have HY2 : Hid _ := HY1.out.trans (hb.mono HY1.out.size)
        have HR1b : Hid _ := VRow.later HR1.out hb
        have HTX1 : Hid _ := HTX.out y2 b1 b2 c1 c2 HR1b.out hr2 hc1 hcm1 hc2 hcm2
        clear hb ho2 hr2
        go_wp2_with fail
        refine Calls.mono HTX1.out ?_
        rintro e y3 ⟨rfl, hb⟩
        have HY3 : Hid _ := HY2.out.trans (hb.mono HY2.out.size)
        have HR1c : Hid _ := VRow.later HR1b.out hb
        clear hb HTX1
        go_wp2_with fail
        refine Calls.mono (HF3.out _) ?_
        rintro e y4 ⟨v4, rfl, ho4, hb⟩
        obtain ⟨b4, c4, rfl, hc4, hcm4, hnn4, hr4⟩ := ho4.shape
        rw [sv_len] at hc4 ⊢
        rw [← HM.out] at hc4 ⊢
        have HY4 : Hid _ := HY3.out.trans (hb.mono HY3.out.size)
        have HR1d : Hid _ := VRow.later HR1c.out hb
        have HTX2 : Hid _ := HTX.out y4 b4 b1 c4 c1 hr4 HR1d.out hc4 hcm4 hc1 hcm1
        clear hb ho4 hr4
        go_wp2_with fail
        refine Calls.mono HTX2.out ?_
        rintro e y5 ⟨rfl, hb⟩
        have HY5 : Hid _ := HY4.out.trans (hb.mono HY4.out.size)
        have HR1e : Hid _ := VRow.later HR1d.out hb
        clear hb HTX2
        go_wp2_with fail
        refine Calls.mono (HF4.out _) ?_
        rintro e y6 ⟨rfl, hb⟩
        have HY6 : Hid _ := HY5.out.trans (hb.mono HY5.out.size)
        have HR1f : Hid _ := VRow.later HR1e.out hb
        clear hb
        go_wp2_with fail
        refine Calls.mono (HF5.out _) ?_
        rintro e y7 ⟨v7, rfl, ho7, hb⟩
        obtain ⟨b7, c7, rfl, hc7, hcm7, hnn7, hr7⟩ := ho7.shape
        rw [sv_len] at hc7 ⊢
        rw [← HM.out] at hc7 ⊢
        have HY7 : Hid _ := HY6.out.trans (hb.mono HY6.out.size)
        have HTX3 : Hid _ := HTX.out y7 b7 b1 c7 c1 hr7 (VRow.later HR1f.out hb) hc7 hcm7 hc1 hcm1
        clear hb ho7 hr7
        go_wp2_with fail
        refine Calls.mono HTX3.out ?_
        rintro e y8 ⟨rfl, hb⟩
        have HY8 : Hid _ := HY7.out.trans (hb.mono HY7.out.size)
        clear hb
        go_wp2
        go_ret
        exact ⟨rfl, HY8.out⟩
  · go_enter Tryd.func14, Tryd.ntmps14
    go_wp2_with fail
    refine Calls.mono HK.out ?_
    rintro e x0 ⟨rfl, hb⟩
    have HXa : Hid _ := hb
    clear hb
    by_cases h1 : 2000 < l.length
    · clear hbig
      go_wp2
      go_ret
      exact ⟨rfl, HXa.out⟩
    · have h2 : 700 < n := by omega
      clear hbig
      go_wp2
      go_ret
      exact ⟨rfl, HXa.out⟩
end Go.Proofs.YtpffjeoiacaihaaDoor
