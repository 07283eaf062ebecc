/-
  Walk of newsreelhelp.SmallEntry.
-/
import Derived.Test.YteockpllnhjooaaGreatDoorOpenEnt
namespace Go.Proofs.YteockpllnhjooaaGreatDoor
open Go.RowKit NumMath
open EntMath (E)
set_option maxRecDepth 100000
set_option linter.unusedVariables false
set_option linter.unusedSimpArgs false

def smallE (e : E) : Bool := decide (e.feed.length ≤ 300 ∧ e.guid.length ≤ 900 ∧ e.title.length ≤ 600 ∧ e.link.length ≤ 300 ∧ e.body.length ≤ 1700)
theorem smallEnt_cases (e : E) :
    ((e.feed.length ≤ 300 ∧ e.guid.length ≤ 900 ∧ e.title.length ≤ 600 ∧ e.link.length ≤ 300 ∧ e.body.length ≤ 1700) ∧ Hid (smallE e = true)) ∨
    ((e.feed.length ≤ 300 ∧ e.guid.length ≤ 900 ∧ e.title.length ≤ 600 ∧ e.link.length ≤ 300 ∧ 1700 < e.body.length) ∧ Hid (smallE e = false)) ∨
    ((e.feed.length ≤ 300 ∧ e.guid.length ≤ 900 ∧ e.title.length ≤ 600 ∧ 300 < e.link.length) ∧ Hid (smallE e = false)) ∨
    ((e.feed.length ≤ 300 ∧ e.guid.length ≤ 900 ∧ 600 < e.title.length) ∧ Hid (smallE e = false)) ∨
    ((e.feed.length ≤ 300 ∧ 900 < e.guid.length) ∧ Hid (smallE e = false)) ∨ (300 < e.feed.length ∧ Hid (smallE e = false)) := by
  unfold Hid
  have h : smallE e = true ↔ (e.feed.length ≤ 300 ∧ e.guid.length ≤ 900 ∧ e.title.length ≤ 600 ∧ e.link.length ≤ 300 ∧ e.body.length ≤ 1700) := by simp [smallE]
  have h' : smallE e = false ↔ ¬ (e.feed.length ≤ 300 ∧ e.guid.length ≤ 900 ∧ e.title.length ≤ 600 ∧ e.link.length ≤ 300 ∧ e.body.length ≤ 1700) := by rw [← h]; simp
  rw [h, h']
  omega
theorem smallEnt_fit {e : E} (h : smallE e = true) : e.feed.length ≤ 300 ∧ e.guid.length ≤ 900 ∧ e.title.length ≤ 600 ∧ e.link.length ≤ 300 ∧ e.body.length ≤ 1700 := by simpa [smallE] using h

set_option maxHeartbeats 4000000 in
theorem smallEnt_any (e : E) (w : World) : Calls Tryz.prog 7 #[entV e] w fun r w' => r = .returned (.bool (smallE e)) ∧ Below w.heap.size w w' := by
  have HA0 : Hid _ := EntAt.new w e
  have HB0 : Hid (Below w.heap.size w (w.alloc (.cells #[.string (strN e.feed), .string (strN e.guid), .string (strN e.title), .string (strN e.link), .string (strN e.body), .int .i64 e.time] 23))) := (Below.refl _ _).alloc (Nat.le_refl _) _
  have z1 := strN_size e.feed
  have z2 := strN_size e.guid
  have z3 := strN_size e.title
  have z4 := strN_size e.link
  have z5 := strN_size e.body
  obtain ⟨c0, c1, c2, c3, c4, c5⟩ := HA0.out.cells
  unfold entV
  rcases smallEnt_cases e with ⟨⟨h1, h2, h3, h4, h5⟩, H⟩ | ⟨⟨h1, h2, h3, h4, h5⟩, H⟩ | ⟨⟨h1, h2, h3, h4⟩, H⟩ | ⟨⟨h1, h2, h3⟩, H⟩ | ⟨⟨h1, h2⟩, H⟩ | ⟨h1, H⟩
  all_goals
    go_enter Tryz.func7, Tryz.ntmps7
    go_wp2
    go_ret
    rw [H.out]
    exact ⟨by first | rfl | (congr 2; simp; omega), HB0.out⟩
end Go.Proofs.YteockpllnhjooaaGreatDoor
