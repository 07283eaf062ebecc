/-
  OpenEnt, FnSmall.
-/
import Derived.Test.YteockpllnhjooaaGreatDoorQL07
import Derived.Lib.SmallJoins
import Derived.OpenShut
namespace Go.Proofs.YteockpllnhjooaaGreatDoor
open Go.RowKit Go.WideShapes Go.ChangeShapes
open EntMath (E)
set_option maxRecDepth 100000
set_option linter.unusedVariables false
set_option linter.unusedSimpArgs false

/-- What is known of an entry that came in. -/
structure InFit (e : E) : Prop where
  f1 : ∀ c ∈ e.feed, c < 256
  f2 : ∀ c ∈ e.guid, c < 256
  f3 : ∀ c ∈ e.title, c < 256
  f4 : ∀ c ∈ e.link, c < 256
  f5 : ∀ c ∈ e.body, c < 256
  l1 : e.feed.length ≤ maxLen
  l2 : e.guid.length ≤ maxLen
  l3 : e.title.length ≤ maxLen
  l4 : e.link.length ≤ maxLen
  l5 : e.body.length ≤ maxLen
  t0 : -9223372036854775808 ≤ e.time
  t1 : e.time ≤ 9223372036854775807
theorem open_ent {H : Type} {enc : TypeId × Value → H} {w : World} {r : Reach} {b0 base : Nat} {sp : Nat → Bool} {held : Bool} {v : Value} {d : DataW H} {ps : List MemPlace}
    (hval : Value.okWide Tryz.prog w r b0 23 v) (h : DataW.Trod enc Tryz.prog w base sp held 23 v d ps) : ∃ e : E, v = entV e ∧ InFit e := by
  obtain ⟨cs, rfl, hsz⟩ := okWide_struct Tryz.underlying23 hval
  have hsz6 : cs.size = 6 := hsz.trans (by kernel_rfl)
  obtain ⟨l⟩ := cs
  match l, hsz6 with
  | [v0, v1, v2, v3, v4, v5], _ =>
    obtain ⟨fuel, hf⟩ := h
    obtain ⟨ys, k, _, _, _, hyl, hf2⟩ := DataW.trod_struct Tryz.underlying23 hf
    have g0 := hf2 0 _ rfl
    have g1 := hf2 1 _ rfl
    have g2 := hf2 2 _ rfl
    have g3 := hf2 3 _ rfl
    have g4 := hf2 4 _ rfl
    have g5 := hf2 5 _ rfl
    match ys, hyl with
    | [y0, y1, y2, y3, y4, y5], _ =>
      simp [Value.cells, show Tryz.prog.cellsOf 2 = 1 by kernel_rfl, show Tryz.prog.cellsOf 9 = 1 by kernel_rfl] at g0 g1 g2 g3 g4 g5
      obtain ⟨s0, h0, _, m0⟩ := DataW.trod_string Tryz.underlying9 g0
      obtain ⟨s1, h1, _, m1⟩ := DataW.trod_string Tryz.underlying9 g1
      obtain ⟨s2, h2, _, m2⟩ := DataW.trod_string Tryz.underlying9 g2
      obtain ⟨s3, h3, _, m3⟩ := DataW.trod_string Tryz.underlying9 g3
      obtain ⟨s4, h4, _, m4⟩ := DataW.trod_string Tryz.underlying9 g4
      obtain ⟨z5, h5, _, w5⟩ := DataW.trod_int Tryz.underlying2 g5
      simp at h0 h1 h2 h3 h4 h5
      subst h0 h1 h2 h3 h4 h5
      obtain ⟨l0, b0, rfl⟩ := any_str s0
      obtain ⟨l1, b1, rfl⟩ := any_str s1
      obtain ⟨l2, b2, rfl⟩ := any_str s2
      obtain ⟨l3, b3, rfl⟩ := any_str s3
      obtain ⟨l4, b4, rfl⟩ := any_str s4
      exact ⟨⟨l0, l1, l2, l3, l4, z5⟩, rfl, b0, b1, b2, b3, b4, by rw [← strN_size]; exact m0, by rw [← strN_size]; exact m1, by rw [← strN_size]; exact m2, by rw [← strN_size]; exact m3, by rw [← strN_size]; exact m4, (bounds_i64 w5).1, (bounds_i64 w5).2⟩
end Go.Proofs.YteockpllnhjooaaGreatDoor
namespace Go.Proofs.YteockpllnhjooaaGreatDoor
open Go.RowKit NumMath
open EntMath (E)
set_option maxRecDepth 100000
set_option linter.unusedVariables false
set_option linter.unusedSimpArgs false

def smallE (e : E) : Bool := decide (e.feed.length ≤ 300 ∧ e.guid.length ≤ 900 ∧ e.title.length ≤ 600 ∧ e.link.length ≤ 300 ∧ e.body.length ≤ 1700)
theorem smallEnt_cases (e : E) :
    ((e.feed.length ≤ 300 ∧ e.guid.length ≤ 900 ∧ e.title.length ≤ 600 ∧ e.link.length ≤ 300 ∧ e.body.length ≤ 1700) ∧ Hid (smallE e = true)) ∨
    ((e.feed.length ≤ 300 ∧ e.guid.length ≤ 900 ∧ e.title.length ≤ 600 ∧ e.link.length ≤ 300 ∧ 1700 < e.body.length) ∧ Hid (smallE e = false)) ∨
    ((e.feed.length ≤ 300 ∧ e.guid.length ≤ 900 ∧ e.title.length ≤ 600 ∧ 300 < e.link.length) ∧ Hid (smallE e = false)) ∨
    ((e.feed.length ≤ 300 ∧ e.guid.length ≤ 900 ∧ 600 < e.title.length) ∧ Hid (smallE e = false)) ∨
    ((e.feed.length ≤ 300 ∧ 900 < e.guid.length) ∧ Hid (smallE e = false)) ∨ (300 < e.feed.length ∧ Hid (smallE e = false)) := by
  unfold Hid
  have h : smallE e = true ↔ (e.feed.length ≤ 300 ∧ e.guid.length ≤ 900 ∧ e.title.length ≤ 600 ∧ e.link.length ≤ 300 ∧ e.body.length ≤ 1700) := by simp [smallE]
  have h' : smallE e = false ↔ ¬ (e.feed.length ≤ 300 ∧ e.guid.length ≤ 900 ∧ e.title.length ≤ 600 ∧ e.link.length ≤ 300 ∧ e.body.length ≤ 1700) := by rw [← h]; simp
  rw [h, h']
  omega
theorem smallEnt_fit {e : E} (h : smallE e = true) : e.feed.length ≤ 300 ∧ e.guid.length ≤ 900 ∧ e.title.length ≤ 600 ∧ e.link.length ≤ 300 ∧ e.body.length ≤ 1700 := by simpa [smallE] using h

set_option maxHeartbeats 4000000 in
theorem smallEnt_any (e : E) (w : World) : Calls Tryz.prog 7 #[entV e] w fun r w' => r = .returned (.bool (smallE e)) ∧ Below w.heap.size w w' := by
  have HA0 : Hid _ := EntAt.new w e
  have HB0 : Hid (Below w.heap.size w (w.alloc (.cells #[.string (strN e.feed), .string (strN e.guid), .string (strN e.title), .string (strN e.link), .string (strN e.body), .int .i64 e.time] 23))) := (Below.refl _ _).alloc (Nat.le_refl _) _
  have z1 := strN_size e.feed
  have z2 := strN_size e.guid
  have z3 := strN_size e.title
  have z4 := strN_size e.link
  have z5 := strN_size e.body
  obtain ⟨c0, c1, c2, c3, c4, c5⟩ := HA0.out.cells
  unfold entV
  rcases smallEnt_cases e with ⟨⟨h1, h2, h3, h4, h5⟩, H⟩ | ⟨⟨h1, h2, h3, h4, h5⟩, H⟩ | ⟨⟨h1, h2, h3, h4⟩, H⟩ | ⟨⟨h1, h2, h3⟩, H⟩ | ⟨⟨h1, h2⟩, H⟩ | ⟨h1, H⟩
  all_goals
    go_enter Tryz.func7, Tryz.ntmps7
    go_wp2
    go_ret
    rw [H.out]
    exact ⟨by first | rfl | (congr 2; simp; omega), HB0.out⟩
end Go.Proofs.YteockpllnhjooaaGreatDoor
