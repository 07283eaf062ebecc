/-
  Walk of newsreellaw4.TextRunes.
-/
import Derived.Test.YtpffjeoiacaihaaDoorL4Kit2
namespace Go.Proofs.YtpffjeoiacaihaaDoor
open Go.RowKit NumMath
set_option maxRecDepth 100000
set_option linter.unusedVariables false
set_option linter.unusedSimpArgs false

set_option maxRecDepth 1000000 in
set_option maxHeartbeats 4000000 in
theorem textRunes_walk (n0 : Int) (W : World) (ht : Tab W) (w0 : (Lit.int .u32 n0).wf = true) :
    Calls Tryd.prog 13 #[.int .u32 n0] W fun e W' => e = .returned (.bool true) ∧ Below W.heap.size W W' := by
  have hbn := bounds_u32 w0
  obtain ⟨q, rfl⟩ : ∃ q : Nat, n0 = (q : Int) := ⟨n0.toNat, by omega⟩
  have HK : Hid _ := known_any W ht
  obtain ⟨v, hv⟩ : ∃ v : Nat, (q : Int) % 1114112 = (v : Int) := ⟨q % 1114112, by omega⟩
  have hvb : v ≤ 1114111 := by omega
  clear w0 ht
  by_cases hsur : 55296 ≤ v ∧ v < 57344
  · obtain ⟨h1, h2⟩ := hsur
    go_enter Tryd.func13, Tryd.ntmps13
    go_wp2_with fail
    refine Calls.mono HK.out ?_
    rintro e x0 ⟨rfl, hb⟩
    have HXa : Hid _ := hb
    clear hb
    go_wp2
    go_ret
    exact ⟨rfl, HXa.out⟩
  · have hval : TxtMath.valid v = true := by simp [TxtMath.valid]; omega
    have HOF : Hid (∀ w : World, Calls Tryd.prog 38 #[.slice (some ⟨w.heap.size, 0, none⟩) 1 1] (w.alloc (.cells #[.int .i64 (v : Int)] 3)) fun e w' => e = .returned (.string (strN (TxtMath.encs [v]))) ∧ Below (w.alloc (.cells #[.int .i64 (v : Int)] 3)).heap.size (w.alloc (.cells #[.int .i64 (v : Int)] 3)) w') := fun w => of_any (some ⟨w.heap.size, 0, none⟩) 1 [v] (w.alloc (.cells #[.int .i64 (v : Int)] 3)) (one_row w v) (by intro r hr; simp at hr; subst hr; exact hval) (by simp) (by unfold maxLen; omega) (by simp)
    have hsl := (TxtMath.enc_len v).2
    have hsb := TxtMath.enc_lt v (by omega)
    have hrn : TxtMath.runes (TxtMath.enc v) = [v] := by
      have := TxtMath.runes_enc v [] hval
      simpa [TxtMath.runes_nil] using this
    rw [TxtMath.encs_one] at HOF
    generalize TxtMath.enc v = s at *
    have hm1 : ∀ w, (Op.stringOp BinOp.add ⟨#[97]⟩ (strN s)).run Tryd.prog w = .ok (.string (strN (97 :: s))) w := fun w => sum_strN [97] s (by simp; omega) w
    have hm2 : ∀ w, (Op.stringOp BinOp.add (strN (97 :: s)) ⟨#[98]⟩).run Tryd.prog w = .ok (.string (strN (97 :: s ++ [98]))) w := fun w => sum_strN (97 :: s) [98] (by simp; omega) w
    have hMb : ∀ c ∈ 97 :: s ++ [98], c < 256 := app_lt (by intro c hc; rcases List.mem_cons.1 hc with h | h; omega; exact hsb c h) (by simp)
    have hMl : (97 :: s ++ [98]).length ≤ 6 := by simp; omega
    generalize 97 :: s ++ [98] = M at *
    have HF1 : Hid (∀ w, _) := fun w => clean_any M w hMb (by omega)
    have HF2 : Hid (∀ w, _) := fun w => refCleanS_any M w hMb (by omega)
    have HF3 : Hid (∀ w, _) := fun w => clean_any s w hsb (by omega)
    have HF4 : Hid (∀ w, _) := fun w => refCleanS_any s w hsb (by omega)
    have HF5 : Hid (∀ w, _) := fun w => fold_any s w hsb (by omega)
    have HF6 : Hid (∀ w, _) := fun w => refFold_any s w hsb (by omega)
    have HF7 : Hid (∀ w, _) := fun w => words_any M w hMb (by omega)
    have HF8 : Hid (∀ w, _) := fun w => refWords_any M w hMb (by omega)
    have HF9 : Hid (∀ w, _) := fun w => runes_any s w hsb (by omega)
    rw [hrn] at HF9
    simp only [List.length_singleton] at HF9
    have HWb : Hid _ := wordsB_lt M
    have hwl := wordsB_len M
    generalize TxtMath.wordsB M = ws at *
    have hsu : ¬ ((55296 : Int) ≤ (v : Int) ∧ (v : Int) < 57344) := by omega
    have hc2 : (v : Int) < 55296 ∨ 57344 ≤ (v : Int) := by omega
    clear hsur hval hrn
    rcases hc2 with hlo | hhi
    all_goals
      go_enter Tryd.func13, Tryd.ntmps13
      go_wp2_with fail
      refine Calls.mono HK.out ?_
      rintro e x0 ⟨rfl, hb⟩
      have HXa : Hid _ := hb
      clear hb
      go_wp2_with fail
      refine Calls.mono (HOF.out _) ?_
      rintro e x1 ⟨rfl, hb⟩
      have HXb : Hid _ := (HXa.out.alloc HXa.out.size (.cells #[.int .i64 (v : Int)] 3)).trans (hb.mono (by have := HXa.out.size; simp; omega))
      clear hb
      go_wp2_with fail
      refine Calls.mono (HF1.out _) ?_
      rintro e x2 ⟨rfl, hb⟩
      have HX2 : Hid _ := HXb.out.trans (hb.mono HXb.out.size)
      clear hb
      go_wp2_with fail
      refine Calls.mono (HF2.out _) ?_
      rintro e x3 ⟨rfl, hb⟩
      have HX3 : Hid _ := HX2.out.trans (hb.mono HX2.out.size)
      clear hb
      go_wp2_with fail
      refine Calls.mono (HF3.out _) ?_
      rintro e x4 ⟨rfl, hb⟩
      have HX4 : Hid _ := HX3.out.trans (hb.mono HX3.out.size)
      clear hb
      go_wp2_with fail
      refine Calls.mono (HF4.out _) ?_
      rintro e x5 ⟨rfl, hb⟩
      have HX5 : Hid _ := HX4.out.trans (hb.mono HX4.out.size)
      clear hb
      go_wp2_with fail
      refine Calls.mono (HF5.out _) ?_
      rintro e x6 ⟨rfl, hb⟩
      have HX6 : Hid _ := HX5.out.trans (hb.mono HX5.out.size)
      clear hb
      go_wp2_with fail
      refine Calls.mono (HF6.out _) ?_
      rintro e x7 ⟨rfl, hb⟩
      have HX7 : Hid _ := HX6.out.trans (hb.mono HX6.out.size)
      clear hb
      go_wp2_with fail
      refine Calls.mono (HF7.out _) ?_
      rintro e y1 ⟨v1, rfl, ho1, hb⟩
      obtain ⟨b1, c1, rfl, hc1, hcm1, _, hr1⟩ := ho1.shape
      rw [sv_len] at hc1 ⊢
      have HY1 : Hid _ := HX7.out.trans (hb.mono HX7.out.size)
      have HR1 : Hid _ := hr1
      clear hb ho1 hr1
      go_wp2_with fail
      refine Calls.mono (HF8.out _) ?_
      rintro e y2 ⟨v2, rfl, ho2, hb⟩
      obtain ⟨b2, c2, rfl, hc2, hcm2, _, hr2⟩ := ho2.shape
      rw [sv_len] at hc2 ⊢
      have HY2 : Hid _ := HY1.out.trans (hb.mono HY1.out.size)
      have HTX : Hid _ := texts_any b1 b2 c1 c2 ws ws y2 (VRow.later HR1.out hb) hr2 HWb.out HWb.out hc1 hcm1 hc2 hcm2
      rw [decide_eq_true rfl] at HTX
      clear hb ho2 hr2
      go_wp2_with fail
      refine Calls.mono HTX.out ?_
      rintro e y3 ⟨rfl, hb⟩
      have HY3 : Hid _ := HY2.out.trans (hb.mono HY2.out.size)
      clear hb
      go_wp2_with fail
      refine Calls.mono (HF9.out _) ?_
      rintro e y4 ⟨rfl, hb⟩
      have HY4 : Hid _ := HY3.out.trans (hb.mono HY3.out.size)
      clear hb
      go_wp2
      go_ret
      exact ⟨rfl, HY4.out⟩
end Go.Proofs.YtpffjeoiacaihaaDoor
