/-
  Walk of newsreellaw4.known.
-/
import Derived.Test.YtpffjeoiacaihaaDoorFnTxtRight
import Derived.Test.YtpffjeoiacaihaaDoorFnWords
import Derived.Test.YtpffjeoiacaihaaDoorFnLess
import Derived.Test.YtpffjeoiacaihaaDoorFnCut
import Derived.Test.YtpffjeoiacaihaaDoorFnFold
import Derived.Test.YtpffjeoiacaihaaDoorFnRefClean
namespace Go.Proofs.YtpffjeoiacaihaaDoor
open Go.RowKit NumMath
set_option maxRecDepth 100000
set_option linter.unusedVariables false
set_option linter.unusedSimpArgs false

theorem k_words (w : World) : Calls Tryd.prog 40 #[.string ⟨#[195, 133, 110, 103, 115, 116, 114, 195, 182, 109, 44, 32, 49, 32, 120, 33]⟩] w fun e w' => ∃ g cap, e = .returned (.slice (some ⟨g, 0, none⟩) 3 cap) ∧ 3 ≤ cap ∧ cap ≤ maxLen ∧ w'.cell? ⟨g, 0, none⟩ = some (.string ⟨#[195, 165, 110, 103, 115, 116, 114, 195, 182, 109]⟩) ∧ w'.cell? ⟨g, 2, none⟩ = some (.string ⟨#[120]⟩) ∧ Below w.heap.size w w' := by
  refine (words_any [195, 133, 110, 103, 115, 116, 114, 195, 182, 109, 44, 32, 49, 32, 120, 33] w (by decide) (by decide)).mono ?_
  rintro e w' ⟨v, rfl, h, hb⟩
  have e1 : TxtMath.wordsB [195, 133, 110, 103, 115, 116, 114, 195, 182, 109, 44, 32, 49, 32, 120, 33] = [[195, 165, 110, 103, 115, 116, 114, 195, 182, 109], [49], [120]] := by decide +kernel
  rw [e1] at h
  rcases h.2 with ⟨h2, h3⟩ | ⟨g, cap, cur, hv, hg, hcur, h5, h6, h7⟩
  · simp [sv] at h3
  · subst hv
    have h8 := h
    unfold Own at h8
    have c0 := World.ownsRow.cellAt h8 0 (by decide)
    have c2 := World.ownsRow.cellAt h8 2 (by decide)
    exact ⟨g, cap, rfl, h5, h6, c0.trans rfl, c2.trans rfl, hb⟩
theorem k_clean (w : World) : Calls Tryd.prog 29 #[.string ⟨#[9, 65, 32, 1, 32, 98, 32]⟩] w fun e w' => e = .returned (.string ⟨#[65, 32, 98]⟩) ∧ Below w.heap.size w w' := by
  have := clean_any [9, 65, 32, 1, 32, 98, 32] w (by decide) (by decide)
  rwa [show TxtMath.cleanB [9, 65, 32, 1, 32, 98, 32] = [65, 32, 98] by decide +kernel] at this
theorem k_right1 (w : World) : Calls Tryd.prog 32 #[.string ⟨#[65, 32, 98]⟩, .int .i64 3] w fun e w' => e = .returned (.bool true) ∧ Below w.heap.size w w' := by
  have := txtRight_any [65, 32, 98] 3 w (by decide) (by decide)
  rwa [show TxtMath.rightB [65, 32, 98] 3 = true by decide +kernel] at this
theorem k_right2 (w : World) : Calls Tryd.prog 32 #[.string ⟨#[65, 32, 32, 98]⟩, .int .i64 9] w fun e w' => e = .returned (.bool false) ∧ Below w.heap.size w w' := by
  have := txtRight_any [65, 32, 32, 98] 9 w (by decide) (by decide)
  rwa [show TxtMath.rightB [65, 32, 32, 98] 9 = false by decide +kernel] at this
theorem k_right3 (w : World) : Calls Tryd.prog 32 #[.string ⟨#[65, 32, 98]⟩, .int .i64 2] w fun e w' => e = .returned (.bool false) ∧ Below w.heap.size w w' := by
  have := txtRight_any [65, 32, 98] 2 w (by decide) (by decide)
  rwa [show TxtMath.rightB [65, 32, 98] 2 = false by decide +kernel] at this
theorem k_runes (w : World) : Calls Tryd.prog 30 #[.string ⟨#[195, 169, 255]⟩] w fun e w' => e = .returned (.int .i64 2) ∧ Below w.heap.size w w' := by
  have := runes_any [195, 169, 255] w (by decide) (by decide)
  rwa [show (TxtMath.runes [195, 169, 255]).length = 2 by decide +kernel] at this
theorem k_cut (w : World) : Calls Tryd.prog 34 #[.string ⟨#[65, 32, 98, 99]⟩, .int .i64 2] w fun e w' => e = .returned (.string ⟨#[65]⟩) ∧ Below w.heap.size w w' := by
  have := cut_any [65, 32, 98, 99] 2 w (by decide) (by decide) (by decide)
  rwa [show TxtMath.cutB [65, 32, 98, 99] 2 = [65] by decide +kernel] at this
theorem k_fold (w : World) : Calls Tryd.prog 36 #[.string ⟨#[195, 137, 84, 208, 144, 208, 128]⟩] w fun e w' => e = .returned (.string ⟨#[195, 169, 116, 208, 176, 209, 144]⟩) ∧ Below w.heap.size w w' := by
  have := fold_any [195, 137, 84, 208, 144, 208, 128] w (by decide) (by decide)
  rwa [show TxtMath.foldB [195, 137, 84, 208, 144, 208, 128] = [195, 169, 116, 208, 176, 209, 144] by decide +kernel] at this
theorem k_less1 (w : World) (ht : Tab w) : Calls Tryd.prog 48 #[.string ⟨#[97]⟩, .string ⟨#[66]⟩] w fun e w' => e = .returned (.bool true) ∧ Below w.heap.size w w' := by
  have := less_any [97] [66] w ht (by decide) (by decide) (by decide) (by decide)
  rwa [show TxtMath.lessB [97] [66] = true by decide +kernel] at this
theorem k_less2 (w : World) (ht : Tab w) : Calls Tryd.prog 48 #[.string ⟨#[66]⟩, .string ⟨#[97]⟩] w fun e w' => e = .returned (.bool false) ∧ Below w.heap.size w w' := by
  have := less_any [66] [97] w ht (by decide) (by decide) (by decide) (by decide)
  rwa [show TxtMath.lessB [66] [97] = false by decide +kernel] at this

set_option maxRecDepth 100000 in
set_option maxHeartbeats 2000000 in
theorem known_any (w : World) (ht : Tab w) :
    Calls Tryd.prog 26 #[] w fun e w' => e = .returned (.bool true) ∧ Below w.heap.size w w' := by
  have HT : Hid _ := ht
  clear ht
  go_enter Tryd.func26, Tryd.ntmps26
  go_wp2_with fail
  refine Calls.mono (k_words _) ?_
  rintro e w1 ⟨g, cap, rfl, hc3, hcm, hc0, hc2, hb1⟩
  have HC0 : Hid _ := hc0
  have HC2 : Hid _ := hc2
  have HB : Hid _ := hb1
  have HS : Hid (Below w1.heap.size w1 w1) := Below.refl _ _
  unfold maxLen at hcm
  clear hc0 hc2 hb1
  go_wp2_with fail
  refine Calls.mono (k_clean _) ?_
  rintro e x0 ⟨rfl, hb⟩
  have HB0 : Hid _ := HB.out.trans (hb.mono HB.out.size)
  have HS0 : Hid _ := HS.out.trans (hb.mono HS.out.size)
  clear hb
  go_wp2_with fail
  refine Calls.mono (k_right1 _) ?_
  rintro e x1 ⟨rfl, hb⟩
  have HB1 : Hid _ := HB0.out.trans (hb.mono HB0.out.size)
  have HS1 : Hid _ := HS0.out.trans (hb.mono HS0.out.size)
  clear hb
  go_wp2_with fail
  refine Calls.mono (k_right2 _) ?_
  rintro e x2 ⟨rfl, hb⟩
  have HB2 : Hid _ := HB1.out.trans (hb.mono HB1.out.size)
  have HS2 : Hid _ := HS1.out.trans (hb.mono HS1.out.size)
  clear hb
  go_wp2_with fail
  refine Calls.mono (k_right3 _) ?_
  rintro e x3 ⟨rfl, hb⟩
  have HB3 : Hid _ := HB2.out.trans (hb.mono HB2.out.size)
  have HS3 : Hid _ := HS2.out.trans (hb.mono HS2.out.size)
  clear hb
  go_wp2_with fail
  refine Calls.mono (k_runes _) ?_
  rintro e x4 ⟨rfl, hb⟩
  have HB4 : Hid _ := HB3.out.trans (hb.mono HB3.out.size)
  have HS4 : Hid _ := HS3.out.trans (hb.mono HS3.out.size)
  clear hb
  go_wp2_with fail
  refine Calls.mono (k_cut _) ?_
  rintro e x5 ⟨rfl, hb⟩
  have HB5 : Hid _ := HB4.out.trans (hb.mono HB4.out.size)
  have HS5 : Hid _ := HS4.out.trans (hb.mono HS4.out.size)
  clear hb
  go_wp2_with fail
  refine Calls.mono (k_fold _) ?_
  rintro e x6 ⟨rfl, hb⟩
  have HB6 : Hid _ := HB5.out.trans (hb.mono HB5.out.size)
  have HS6 : Hid _ := HS5.out.trans (hb.mono HS5.out.size)
  clear hb
  have hc0 := cell_later HC0.out HS6.out
  have hc2 := cell_later HC2.out HS6.out
  go_wp2_with fail
  refine Calls.mono (k_less1 _ (Tab.later HT.out HB6.out)) ?_
  rintro e y0 ⟨rfl, hb⟩
  have HBy : Hid _ := HB6.out.trans (hb.mono HB6.out.size)
  clear hb
  go_wp2_with fail
  refine Calls.mono (k_less2 _ (Tab.later HT.out HBy.out)) ?_
  rintro e y1 ⟨rfl, hb⟩
  have HBz : Hid _ := HBy.out.trans (hb.mono HBy.out.size)
  clear hb
  go_wp2
  go_ret
  exact ⟨rfl, HBz.out⟩
end Go.Proofs.YtpffjeoiacaihaaDoor
