/-
  The checksum of a literal of parts.
-/
import Derived.Test.YtpffjeoiacaihaaDoorL2Known
namespace Go.Proofs.YtpffjeoiacaihaaDoor
open Go.RowKit NumMath
set_option maxRecDepth 100000
set_option linter.unusedVariables false
set_option linter.unusedSimpArgs false

theorem sum_lit (w : World) (ht : Tab w) (ps : List Part) (h : ∀ p ∈ ps, p.ok w) (g n : Nat) (hg : g = w.heap.size) (hn : n = ps.length) (hm : n ≤ maxLen) (cs : Array Value) (hcs : cs = (ps.map Part.val).toArray) :
    Calls Tryd.prog 16 #[.slice (some ⟨g, 0, none⟩) n n] (w.alloc (.cells cs 24)) fun e w' => e = .returned (.int .u32 (crcOf (allB ps) : Nat)) ∧ Below w.heap.size w w' := by
  subst hg; subst hn; subst hcs
  refine Calls.mono (crcSum_any (some ⟨w.heap.size, 0, none⟩) ps ps.length _ (ht.alloc _) (lit_parts w ps 24 _ rfl h) (Nat.le_refl _) hm) ?_
  rintro e w' ⟨rfl, hB⟩
  exact ⟨rfl, ((Below.refl _ _).alloc (Nat.le_refl _) _).trans (hB.mono (by simp))⟩
theorem allB_1 (p : Part) : allB [p] = p.zs := by simp [allB]
theorem allB_3 (p q r : Part) : allB [p, q, r] = p.zs ++ q.zs ++ r.zs := by simp [allB]
theorem allB_4 (p q r : Part) : allB [p, noPart, q, r] = p.zs ++ q.zs ++ r.zs := by simp [allB, noPart]
theorem crcOf_more (a b : List Int) : CrcMath.more (crcOf a) (nats b) = crcOf (a ++ b) := by unfold crcOf; rw [nats_append, CrcMath.more_append]
end Go.Proofs.YtpffjeoiacaihaaDoor
