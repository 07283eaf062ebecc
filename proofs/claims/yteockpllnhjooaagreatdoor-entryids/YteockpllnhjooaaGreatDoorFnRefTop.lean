/-
  Walks of newsreelref4.Clean and Right.
-/
import Derived.Test.YteockpllnhjooaaGreatDoorFnRefRunes
import Derived.Test.YteockpllnhjooaaGreatDoorFnRefClean
import Derived.Test.YteockpllnhjooaaGreatDoorFnUtf
import Derived.Test.YteockpllnhjooaaGreatDoorFnCut
namespace Go.Proofs.YteockpllnhjooaaGreatDoor
open Go.RowKit NumMath
set_option maxRecDepth 100000
set_option linter.unusedVariables false
set_option linter.unusedSimpArgs false

theorem runes_le (l : List Nat) : ∀ r ∈ TxtMath.runes l, r ≤ 1114111 := fun r h => TxtMath.valid_le (TxtMath.runes_ok l r h)
theorem clean_le (l : List Nat) : (TxtMath.clean (TxtMath.runes l)).length ≤ l.length := by
  have h2 := TxtMath.clean_len (TxtMath.runes l)
  have h3 := TxtMath.runes_len_le l
  omega

/-- newsreelref4's runes made clean. -/
theorem refCleanR_any (l : List Nat) (w : World) (hb : ∀ c ∈ l, c < 256) (hm : l.length ≤ 17592186044000) :
    ∀ ao cap, VRow w ao (iv (TxtMath.runes l)) → (TxtMath.runes l).length ≤ cap → cap ≤ maxLen →
    Calls Tryz.prog 33 #[.slice ao (TxtMath.runes l).length cap] w fun e w' => ∃ v, e = .returned v ∧ Own w' w.heap.size 3 v (iv (TxtMath.clean (TxtMath.runes l))) ∧ Below w.heap.size w w' := by
  intro ao cap h1 h2 h3
  have h4 := TxtMath.runes_len_le l
  exact refClean_any ao cap _ w h1 (runes_le l) h2 h3 (by omega)

set_option maxRecDepth 100000 in
theorem refCleanS_any (l : List Nat) (w : World) (hb : ∀ c ∈ l, c < 256) (hm : l.length ≤ 17592186044000) :
    Calls Tryz.prog 31 #[.string (strN l)] w fun e w' => e = .returned (.string (strN (TxtMath.cleanB l))) ∧ Below w.heap.size w w' := by
  have HR : Hid (∀ w, _) := fun w => refRunes_any l w hb hm
  have HC : Hid (∀ w, _) := fun w => refCleanR_any l w hb hm
  have HQ : Hid (TxtMath.cleanB l = TxtMath.encs (TxtMath.clean (TxtMath.runes l))) := rfl
  have hcl := clean_le l
  have HV : Hid _ := TxtMath.clean_ok l
  generalize TxtMath.clean (TxtMath.runes l) = C at *
  generalize TxtMath.runes l = R at *
  go_enter Tryz.func31, Tryz.ntmps31
  go_wp2_with fail
  refine Calls.mono (HR.out _) ?_
  rintro e w1 ⟨v1, rfl, ho1, hb1⟩
  obtain ⟨a1, c1, rfl, hc1, hm1, _, hr1⟩ := ho1.shape
  rw [iv_len] at hc1 ⊢
  have HB1 : Hid _ := hb1
  have HR1 : Hid _ := HC.out w1 a1 c1 hr1 hc1 hm1
  clear ho1 hb1 hr1
  go_wp2_with fail
  refine Calls.mono HR1.out ?_
  rintro e w2 ⟨v2, rfl, ho2, hb2⟩
  obtain ⟨a2, c2, rfl, hc2, hm2, _, hr2⟩ := ho2.shape
  rw [iv_len] at hc2 ⊢
  have HB2 : Hid _ := HB1.out.trans (hb2.mono HB1.out.size)
  have HO : Hid _ := of_any a2 c2 C w2 hr2 HV.out hc2 hm2 (by omega)
  clear ho2 hb2 hr2
  go_wp2_with fail
  refine Calls.mono HO.out ?_
  rintro e w3 ⟨rfl, hb3⟩
  have HB3 : Hid _ := HB2.out.trans (hb3.mono HB2.out.size)
  clear hb3
  go_wp2
  go_ret
  rw [HQ.out]
  exact ⟨rfl, HB3.out⟩

end Go.Proofs.YteockpllnhjooaaGreatDoor
