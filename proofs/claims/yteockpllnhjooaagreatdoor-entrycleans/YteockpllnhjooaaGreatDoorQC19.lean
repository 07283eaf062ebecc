/-
  FnEntA.
-/
import Derived.Test.YteockpllnhjooaaGreatDoorQC18
import Derived.Test.YteockpllnhjooaaGreatDoorQC07
import Derived.Test.YteockpllnhjooaaGreatDoorQC11
namespace Go.Proofs.YteockpllnhjooaaGreatDoor
open Go.RowKit NumMath
open EntMath (E)
set_option maxRecDepth 100000
set_option linter.unusedVariables false
set_option linter.unusedSimpArgs false

theorem strN_nil_eq (l : List Nat) (hb : ∀ c ∈ l, c < 256) : ((strN l).toList == ([] : List UInt8)) = decide (l = []) := by
  have := strN_eq (b := []) hb (by simp)
  rw [strN_toList []] at this
  exact this

theorem linkForm_any (l : List Nat) (w : World) (ht : MaxLen w) (hb : ∀ c ∈ l, c < 256) (hm : l.length ≤ 10000) :
    Calls Tryz.prog 25 #[.string (strN l)] w fun r w' => r = .returned (.tuple #[.string (strN (EntMath.linkP l).1), .int .i64 ((EntMath.linkP l).2 : Int)]) ∧ Below w.heap.size w w' := by
  have HP : Hid _ := parse_at l (AddrMath.parse l).1 (AddrMath.parse l).2 w ht hb hm (Prod.eta _).symm
  have heq := strN_nil_eq l hb
  by_cases h : l = []
  · have HL : Hid (EntMath.linkP l = ([], 0)) := by unfold EntMath.linkP; rw [if_pos h]; trivial
    rw [show decide (l = []) = true by simp [h]] at heq
    clear h
    go_enter Tryz.func25, Tryz.ntmps25
    go_wp2
    go_ret2
    rw [HL.out]
    exact ⟨rfl, Below.refl _ _⟩
  · have HL : Hid (EntMath.linkP l = AddrMath.parse l) := by unfold EntMath.linkP; rw [if_neg h]; trivial
    rw [show decide (l = []) = false by simp [h]] at heq
    clear h
    go_enter Tryz.func25, Tryz.ntmps25
    go_wp2_with fail
    refine Calls.mono HP.out ?_
    rintro r w1 ⟨rfl, hb1⟩
    have HB : Hid _ := hb1
    clear hb1
    go_wp2
    go_ret2
    rw [HL.out]
    exact ⟨rfl, HB.out⟩

def strs3 (a b c : List Nat) : Array Value := #[.string (strN a), .string (strN b), .string (strN c)]
theorem cmpOr_any (a b c : List Nat) (g : Nat) (w : World) (ha : ∀ x ∈ a, x < 256) (hb : ∀ x ∈ b, x < 256) (hc : ∀ x ∈ c, x < 256)
    (h0 : w.cell? ⟨g, 0, none⟩ = some (.string (strN a))) (h1 : w.cell? ⟨g, 1, none⟩ = some (.string (strN b))) (h2 : w.cell? ⟨g, 2, none⟩ = some (.string (strN c))) :
    Calls Tryz.prog 27 #[.slice (some ⟨g, 0, none⟩) 3 3] w fun r w' => r = .returned (.string (strN (EntMath.guidOf a b c))) ∧ w' = w := by
  have e1 := strN_nil_eq a ha
  have e2 := strN_nil_eq b hb
  have e3 := strN_nil_eq c hc
  by_cases ha0 : a = []
  · rw [show decide (a = []) = true by simp [ha0]] at e1
    by_cases hb0 : b = []
    · rw [show decide (b = []) = true by simp [hb0]] at e2
      have HG : Hid (EntMath.guidOf a b c = c) := by unfold EntMath.guidOf; rw [if_pos ha0, if_pos hb0]; trivial
      by_cases hc0 : c = []
      · rw [show decide (c = []) = true by simp [hc0]] at e3
        have HC : Hid (c = []) := hc0
        clear ha0 hb0 hc0
        go_enter Tryz.func27, Tryz.ntmps27
        go_wp2
        refine wp_loop_rounds 4 ?_
        rw [rounds_succ]; go_wp2
        rw [rounds_succ]; go_wp2
        rw [rounds_succ]; go_wp2
        rw [rounds_succ]; go_wp2
        go_ret
        rw [HG.out, HC.out]
        exact ⟨rfl, rfl⟩
      · rw [show decide (c = []) = false by simp [hc0]] at e3
        clear ha0 hb0 hc0
        go_enter Tryz.func27, Tryz.ntmps27
        go_wp2
        refine wp_loop_rounds 3 ?_
        rw [rounds_succ]; go_wp2
        rw [rounds_succ]; go_wp2
        rw [rounds_succ]; go_wp2
        go_ret
        rw [HG.out]
        exact ⟨rfl, rfl⟩
    · rw [show decide (b = []) = false by simp [hb0]] at e2
      have HG : Hid (EntMath.guidOf a b c = b) := by unfold EntMath.guidOf; rw [if_pos ha0, if_neg hb0]; trivial
      clear ha0 hb0
      go_enter Tryz.func27, Tryz.ntmps27
      go_wp2
      refine wp_loop_rounds 2 ?_
      rw [rounds_succ]; go_wp2
      rw [rounds_succ]; go_wp2
      go_ret
      rw [HG.out]
      exact ⟨rfl, rfl⟩
  · rw [show decide (a = []) = false by simp [ha0]] at e1
    have HG : Hid (EntMath.guidOf a b c = a) := by unfold EntMath.guidOf; rw [if_neg ha0]; trivial
    clear ha0
    go_enter Tryz.func27, Tryz.ntmps27
    go_wp2
    refine wp_loop_rounds 1 ?_
    rw [rounds_succ]; go_wp2
    go_ret
    rw [HG.out]
    exact ⟨rfl, rfl⟩
end Go.Proofs.YteockpllnhjooaaGreatDoor
