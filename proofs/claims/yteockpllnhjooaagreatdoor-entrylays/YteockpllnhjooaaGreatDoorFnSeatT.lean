/-
  Walk of newsreelseat.Title. And: a seat's entry with another title and another body is in its form.
-/
import Derived.Test.YteockpllnhjooaaGreatDoorFnSeat
import Derived.Test.YteockpllnhjooaaGreatDoorFnSeatE
import Derived.Test.YteockpllnhjooaaGreatDoorFnRefCut
namespace Go.Proofs.YteockpllnhjooaaGreatDoor
open Go.RowKit NumMath
open EntMath (E)
set_option maxRecDepth 100000
set_option linter.unusedVariables false
set_option linter.unusedSimpArgs false

set_option maxHeartbeats 4000000 in
theorem seatTitle_any (ao : Option Addr) (cap : Nat) (l : List Nat) (w : World) (hr : VRow w ao (hv16 l)) (hv : ∀ r ∈ l, r < 65536) (hc : l.length ≤ cap) (hm : cap ≤ maxLen) (hl : l.length ≤ 1000000) :
    Calls Tryz.prog 14 #[.slice ao l.length cap] w fun e w' => e = .returned (.string (strN (TxtMath.cutB (seatT l) 120))) ∧ Below w.heap.size w w' := by
  have HR : Hid _ := seatRunes_any ao cap l w hr hv hc hm hl
  have h1 := seatT_lt l
  have h2 := seatT_len l
  have HC : Hid (∀ w, _) := fun w => refCut_any (seatT l) 120 w h1 (by omega) (by omega)
  generalize seatT l = s at *
  generalize l.length = n at *
  clear hr hv h1 h2
  go_enter Tryz.func14, Tryz.ntmps14
  go_wp2_with fail
  refine Calls.mono HR.out ?_
  rintro r w1 ⟨rfl, hb1⟩
  have HB1 : Hid _ := hb1
  clear hb1
  go_wp2_with fail
  refine Calls.mono (HC.out _) ?_
  rintro r w2 ⟨rfl, hb2⟩
  have HB2 : Hid _ := HB1.out.trans (hb2.mono HB1.out.size)
  clear hb2
  go_wp2
  go_ret
  exact ⟨rfl, HB2.out⟩

/-- The seat's entry with a title and a body. -/
def seatX (k j a : Nat) (T B : List Nat) : E := ⟨(seatE k j a).feed, (seatE k j a).guid, T, (seatE k j a).link, B, (seatE k j a).time⟩
theorem seatX_right (k j a : Nat) (T B : List Nat) (hT : TxtMath.cutB T 120 = T) (hB : TxtMath.cutB B 400 = B) : EntMath.right (seatX k j a T B) = true := by
  refine EntMath.clean_right (e := seatX k j a T B) ?_
  have h1 := addrs_ok _ (seatA5_mem k)
  have h2 := guids_ok ⟨j % 16, by omega⟩
  have h4 := links_ok _ (tab6_mem links6 (j / 16 % 2) (by show _ < 2; omega))
  unfold EntMath.clean seatX seatE
  simp only [] at h2 ⊢
  rw [h1, h2.1, hT, h4.1, hB]
  have hg : ∀ l t, EntMath.guidOf [103, 97 + j % 16] l t = [103, 97 + j % 16] := fun l t => by unfold EntMath.guidOf; rw [if_neg (by simp)]
  rw [EntMath.cleanG_is (by rw [hg]; simp) (by rw [hg]; exact h2.2) (by omega) (by omega), hg]
end Go.Proofs.YteockpllnhjooaaGreatDoor
