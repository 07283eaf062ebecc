/-
  Walk of newsreelref4.Right.
-/
import Derived.Test.YtpffjeoiacaihaaDoorFnRefTop
namespace Go.Proofs.YtpffjeoiacaihaaDoor
open Go.RowKit NumMath
set_option maxRecDepth 100000
set_option linter.unusedVariables false
set_option linter.unusedSimpArgs false

set_option maxRecDepth 100000 in
theorem refTxtRight_any (l : List Nat) (m : Int) (w : World) (hb : ∀ c ∈ l, c < 256) (hm : l.length ≤ 17592186044000) :
    Calls Tryd.prog 33 #[.string (strN l), .int .i64 m] w fun e w' => e = .returned (.bool (TxtMath.rightB l m)) ∧ Below w.heap.size w w' := by
  have HR : Hid (∀ w, _) := fun w => refRunes_any l w hb hm
  have HC : Hid (∀ w, _) := fun w => refCleanS_any l w hb hm
  have heq := strN_eq (cleanB_lt l) hb
  by_cases h : TxtMath.cleanB l = l
  · have hd : decide (TxtMath.cleanB l = l) = true := by simp [h]
    rw [hd] at heq
    have HQ : Hid (TxtMath.rightB l m = decide (((TxtMath.runes l).length : Int) ≤ m)) := by
      show _ = _; unfold TxtMath.rightB; rw [hd]; simp
    have HH : Hid _ := h
    clear h hd
    go_enter Tryd.func33, Tryd.ntmps33
    go_wp2_with fail
    refine Calls.mono (HC.out _) ?_
    rintro e w1 ⟨rfl, h1⟩
    have HB1 : Hid _ := h1
    clear h1
    go_wp2_with fail
    refine Calls.mono (HR.out _) ?_
    rintro e w2 ⟨v1, rfl, ho1, hb1⟩
    obtain ⟨a1, c1, rfl, hc1, hm1, _, hr1⟩ := ho1.shape
    rw [iv_len] at hc1 ⊢
    have HB2 : Hid _ := HB1.out.trans (hb1.mono HB1.out.size)
    clear ho1 hb1 hr1
    go_wp2
    go_ret
    exact ⟨ret_bool HQ.out.symm, HB2.out⟩
  · have hd : decide (TxtMath.cleanB l = l) = false := by simp [h]
    rw [hd] at heq
    have HQ : Hid (TxtMath.rightB l m = false) := by
      show _ = _; unfold TxtMath.rightB; rw [hd]; simp
    clear h hd
    go_enter Tryd.func33, Tryd.ntmps33
    go_wp2_with fail
    refine Calls.mono (HC.out _) ?_
    rintro e w1 ⟨rfl, h1⟩
    have HB1 : Hid _ := h1
    clear h1
    go_wp2
    go_ret
    exact ⟨ret_bool HQ.out.symm, HB1.out⟩
end Go.Proofs.YtpffjeoiacaihaaDoor
