/-
  A row of one; words' bytes.
-/
import Derived.Test.YtpffjeoiacaihaaDoorL4Kit
import Derived.Test.YtpffjeoiacaihaaDoorFnRefFold
import Derived.Test.YtpffjeoiacaihaaDoorFnRefWords
import Derived.Test.YtpffjeoiacaihaaDoorFnTexts
namespace Go.Proofs.YtpffjeoiacaihaaDoor
open Go.RowKit NumMath
set_option maxRecDepth 100000
set_option linter.unusedVariables false
set_option linter.unusedSimpArgs false

theorem one_row (w : World) (r : Nat) : VRow (w.alloc (.cells #[.int .i64 (r : Int)] 3)) (some ⟨w.heap.size, 0, none⟩) (iv [r]) := by
  refine .inr ⟨w.heap.size, 0, rfl, fun i v hi => ?_⟩
  match i, hi with
  | 0, hi => simp [iv] at hi; subst hi; simp
theorem wordsB_lt (l : List Nat) : ∀ t ∈ TxtMath.wordsB l, ∀ c ∈ t, c < 256 := by
  intro t ht
  obtain ⟨u, hu, rfl⟩ := List.mem_map.1 ht
  exact TxtMath.encs_lt u (fun r hr => TxtMath.fold_ok l r ((TxtMath.wordsR_ok l u hu).2.2 r hr))
theorem wordsB_len (l : List Nat) : (TxtMath.wordsB l).length ≤ l.length + 1 := by
  have h1 := words_len (TxtMath.foldR l) []
  have h2 : (TxtMath.foldR l).length ≤ l.length := by unfold TxtMath.foldR; rw [List.length_map]; exact TxtMath.runes_len_le l
  unfold TxtMath.wordsB TxtMath.wordsR
  rw [List.length_map]; omega

end Go.Proofs.YtpffjeoiacaihaaDoor
