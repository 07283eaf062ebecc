/-
  Walk of newsreellaw4.TextFolds.
-/
import Derived.Test.YtpffjeoiacaihaaDoorL4Kit
import Derived.Test.YtpffjeoiacaihaaDoorFnRefFold
namespace Go.Proofs.YtpffjeoiacaihaaDoor
open Go.RowKit NumMath
set_option maxRecDepth 100000
set_option linter.unusedVariables false
set_option linter.unusedSimpArgs false

set_option maxRecDepth 100000 in
set_option maxHeartbeats 2000000 in
theorem textFolds_walk (s0 : ByteArray) (a1 : Option Addr) (xs1 : List Int) (cap1 : Nat) (W : World) (ht : Tab W) (hs0 : s0.size ≤ 140737488355328) (hr1 : Row .u16 W a1 xs1) (hc1 : xs1.length ≤ cap1) (hm1 : cap1 ≤ maxLen) (hn1 : a1 = none → cap1 = 0) (hw1 : ∀ n ∈ xs1, (Lit.int .u16 n).wf = true) (hs1 : cap1 * 2 ≤ 140737488351232) :
    Calls Tryd.prog 12 #[.string s0, .slice a1 xs1.length cap1] W fun e W' => e = .returned (.bool true) ∧ Below W.heap.size W W' := by
  obtain ⟨l, hl, rfl⟩ := any_str s0
  obtain ⟨ns, rfl, hns⟩ := nats16 hw1
  have hrow := vrow16 hr1
  rw [List.length_map] at hc1 ⊢
  have HK : Hid _ := known_any W ht
  have hsz := strN_size l
  unfold maxLen at hm1
  obtain ⟨n, hn⟩ : ∃ n, n = ns.length := ⟨_, rfl⟩
  have HN : Hid _ := hn
  have HR : Hid _ := hrow
  rw [← hn] at hc1 ⊢
  clear hr1 hw1 hn1 hn hrow ht
  by_cases hbig : l.length ≤ 3000 ∧ n ≤ 1000
  · obtain ⟨hl1, hn1⟩ := hbig
    have HT : Hid (∀ w, Below W.heap.size W w → Calls Tryd.prog 27 #[.slice a1 n cap1] w fun e w' => e = .returned (.string (strN (seatT ns))) ∧ Below w.heap.size w w') := by
      intro w hw
      have := seatRunes_any a1 cap1 ns w (VRow.later HR.out hw) hns (by rw [← HN.out]; exact hc1) (by unfold maxLen; omega) (by rw [← HN.out]; omega)
      rw [← HN.out] at this
      exact this
    have htl := seatT_len ns
    rw [← HN.out] at htl
    have htb := seatT_lt ns
    generalize seatT ns = T at *
    have hsum := sum_strN l T (by omega)
    have hSb := app_lt hl htb
    have hSl : (l ++ T).length ≤ 7000 := by rw [List.length_append]; omega
    generalize l ++ T = S at *
    have hfl := foldB_len S
    have hfb := foldB_lt S
    have hcl := cleanB_len S
    have hcb := cleanB_lt S
    have HF1 : Hid (∀ w, _) := fun w => fold_any S w hSb (by omega)
    have HF2 : Hid (∀ w, _) := fun w => refFold_any S w hSb (by omega)
    have HF3 : Hid (∀ w, _) := fun w => fold_any (TxtMath.foldB S) w hfb (by omega)
    have HF4 : Hid (∀ w, _) := fun w => runes_any (TxtMath.foldB S) w hfb (by omega)
    have HF5 : Hid (∀ w, _) := fun w => runes_any S w hSb (by omega)
    have HF6 : Hid (∀ w, _) := fun w => clean_any (TxtMath.foldB S) w hfb (by omega)
    have HF7 : Hid (∀ w, _) := fun w => clean_any S w hSb (by omega)
    have HF8 : Hid (∀ w, _) := fun w => fold_any (TxtMath.cleanB S) w hcb (by omega)
    rw [TxtMath.foldB_twice] at HF3
    rw [TxtMath.fold_len] at HF4
    rw [TxtMath.fold_clean] at HF6
    go_enter Tryd.func12, Tryd.ntmps12
    go_wp2_with fail
    refine Calls.mono HK.out ?_
    rintro e x0 ⟨rfl, hb⟩
    have HXa : Hid _ := hb
    clear hb
    go_wp2_with fail
    refine Calls.mono (HT.out _ HXa.out) ?_
    rintro e x1 ⟨rfl, hb⟩
    have HXb : Hid _ := HXa.out.trans (hb.mono HXa.out.size)
    clear hb
    go_wp2_with fail
    refine Calls.mono (HF1.out _) ?_
    rintro e x2 ⟨rfl, hb⟩
    have HX2 : Hid _ := HXb.out.trans (hb.mono HXb.out.size)
    clear hb
    go_wp2_with fail
    refine Calls.mono (HF2.out _) ?_
    rintro e x3 ⟨rfl, hb⟩
    have HX3 : Hid _ := HX2.out.trans (hb.mono HX2.out.size)
    clear hb
    go_wp2_with fail
    refine Calls.mono (HF3.out _) ?_
    rintro e x4 ⟨rfl, hb⟩
    have HX4 : Hid _ := HX3.out.trans (hb.mono HX3.out.size)
    clear hb
    go_wp2_with fail
    refine Calls.mono (HF4.out _) ?_
    rintro e x5 ⟨rfl, hb⟩
    have HX5 : Hid _ := HX4.out.trans (hb.mono HX4.out.size)
    clear hb
    go_wp2_with fail
    refine Calls.mono (HF5.out _) ?_
    rintro e x6 ⟨rfl, hb⟩
    have HX6 : Hid _ := HX5.out.trans (hb.mono HX5.out.size)
    clear hb
    go_wp2_with fail
    refine Calls.mono (HF6.out _) ?_
    rintro e x7 ⟨rfl, hb⟩
    have HX7 : Hid _ := HX6.out.trans (hb.mono HX6.out.size)
    clear hb
    go_wp2_with fail
    refine Calls.mono (HF7.out _) ?_
    rintro e x8 ⟨rfl, hb⟩
    have HX8 : Hid _ := HX7.out.trans (hb.mono HX7.out.size)
    clear hb
    go_wp2_with fail
    refine Calls.mono (HF8.out _) ?_
    rintro e x9 ⟨rfl, hb⟩
    have HX9 : Hid _ := HX8.out.trans (hb.mono HX8.out.size)
    clear hb
    go_wp2
    go_ret
    exact ⟨rfl, HX9.out⟩
  · go_enter Tryd.func12, Tryd.ntmps12
    go_wp2_with fail
    refine Calls.mono HK.out ?_
    rintro e x0 ⟨rfl, hb⟩
    have HXa : Hid _ := hb
    clear hb
    by_cases h1 : 3000 < l.length
    · clear hbig
      go_wp2
      go_ret
      exact ⟨rfl, HXa.out⟩
    · have h2 : 1000 < n := by omega
      clear hbig
      go_wp2
      go_ret
      exact ⟨rfl, HXa.out⟩
end Go.Proofs.YtpffjeoiacaihaaDoor
