/-
  Walk of text.Right.
-/
import Derived.Test.YtpffjeoiacaihaaDoorFnCut
namespace Go.Proofs.YtpffjeoiacaihaaDoor
open Go.RowKit NumMath
set_option maxRecDepth 100000
set_option linter.unusedVariables false
set_option linter.unusedSimpArgs false

set_option maxRecDepth 100000 in
theorem txtRight_any (l : List Nat) (m : Int) (w : World) (hb : ∀ c ∈ l, c < 256) (hm : 4 * l.length + 8 ≤ 140737488355328) :
    Calls Tryd.prog 32 #[.string (strN l), .int .i64 m] w fun e w' => e = .returned (.bool (TxtMath.rightB l m)) ∧ Below w.heap.size w w' := by
  have heq := strN_eq (cleanB_lt l) hb
  have HR : Hid (∀ w, _) := fun w => runes_any l w hb hm
  have HC : Hid (∀ w, _) := fun w => clean_any l w hb hm
  obtain ⟨k, hk⟩ : ∃ k, k = (TxtMath.runes l).length := ⟨_, rfl⟩
  have HK : Hid _ := hk
  rw [← hk] at HR
  clear hk
  by_cases hle : (k : Int) ≤ m
  · go_enter Tryd.func32, Tryd.ntmps32
    go_wp2_with fail
    refine Calls.mono (HR.out _) ?_
    rintro e w1 ⟨rfl, h1⟩
    have HB1 : Hid _ := h1
    clear h1
    go_wp2_with fail
    refine Calls.mono (HC.out _) ?_
    rintro e w2 ⟨rfl, h2⟩
    have HB2 : Hid _ := HB1.out.trans (h2.mono HB1.out.size)
    clear h2
    go_wp2
    go_ret
    refine ⟨ret_bool ?_, HB2.out⟩
    unfold TxtMath.rightB
    rw [← HK.out]
    simp [hle]
  · go_enter Tryd.func32, Tryd.ntmps32
    go_wp2_with fail
    refine Calls.mono (HR.out _) ?_
    rintro e w1 ⟨rfl, h1⟩
    have HB1 : Hid _ := h1
    clear h1
    go_wp2
    go_ret
    refine ⟨ret_bool ?_, HB1.out⟩
    unfold TxtMath.rightB
    rw [← HK.out, decide_eq_false (by omega)]
    rfl

end Go.Proofs.YtpffjeoiacaihaaDoor
