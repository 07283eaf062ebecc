/-
  Walk of entry.Right.
-/
import Derived.Test.YteockpllnhjooaaGreatDoorFnEntB
namespace Go.Proofs.YteockpllnhjooaaGreatDoor
open Go.RowKit NumMath
open EntMath (E)
set_option maxRecDepth 100000
set_option linter.unusedVariables false
set_option linter.unusedSimpArgs false

theorem ent_differ {x e : E} (h : x ≠ e) (ht : x.time = e.time) (h1 : x.feed = e.feed) (h2 : x.guid = e.guid) (h3 : x.title = e.title) (h4 : x.link = e.link) : x.body ≠ e.body := by
  intro h5
  cases x; cases e
  simp_all

set_option maxHeartbeats 16000000 in
theorem entRight_any (e : E) (w : World) (ht : MaxLen w) (hF : EFit e) :
    Calls Tryz.prog 12 #[entV e] w fun r w' => r = .returned (.bool (EntMath.right e)) ∧ Below w.heap.size w w' := by
  have HC : Hid (∀ w, MaxLen w → _) := fun w ht => entClean_any e w ht hF
  have HA0 : Hid _ := EntAt.new w e
  have HB0 : Hid (Below w.heap.size w (w.alloc (.cells #[.string (strN e.feed), .string (strN e.guid), .string (strN e.title), .string (strN e.link), .string (strN e.body), .int .i64 e.time] 23))) := (Below.refl _ _).alloc (Nat.le_refl _) _
  have HT0 : Hid (MaxLen _) := MaxLen.later ht HB0.out
  have HR : Hid ((EntMath.clean e = (e, 0) → EntMath.right e = true) ∧ (EntMath.clean e ≠ (e, 0) → EntMath.right e = false)) := ⟨(EntMath.right_iff e).2, EntMath.right_no⟩
  have hfx := EntMath.clean_any_fit e
  rcases hcl : EntMath.clean e with ⟨x, k⟩
  rw [hcl] at HC HR hfx
  simp only at hfx
  have e1 := strN_eq hfx.f1 hF.f1
  have e2 := strN_eq hfx.f2 hF.f2
  have e3 := strN_eq hfx.f3 hF.f3
  have e4 := strN_eq hfx.f4 hF.f4
  have e5 := strN_eq hfx.f5 hF.f5
  clear hcl ht
  by_cases hk : 0 < k
  · have HQ : Hid (EntMath.right e = false) := by
      exact HR.out.2 (fun h => by have := (Prod.mk.inj h).2; omega)
    clear HR e1 e2 e3 e4 e5 hfx hF
    unfold entV at *
    go_enter Tryz.func12, Tryz.ntmps12
    go_wp2_with fail
    refine Calls.mono (HC.out _ HT0.out) ?_
    rintro r w1 ⟨rfl, hb⟩
    have HB1 : Hid _ := HB0.out.trans (hb.mono HB0.out.size)
    clear hb
    go_wp2
    go_ret
    rw [HQ.out]
    exact ⟨rfl, HB1.out.alloc HB1.out.size _⟩
  · obtain rfl : k = 0 := by omega
    clear hk
    by_cases hx : x = e
    · have HQ : Hid (EntMath.right e = true) := by
        exact HR.out.1 (by rw [hx])
      clear HR e1 e2 e3 e4 e5 hfx hF
      subst hx
      unfold entV at *
      go_enter Tryz.func12, Tryz.ntmps12
      go_wp2_with fail
      refine Calls.mono (HC.out _ HT0.out) ?_
      rintro r w1 ⟨rfl, hb⟩
      have HA1 : Hid _ := HA0.out.later hb HA0.out.lt
      obtain ⟨c0, c1, c2, c3, c4, c5⟩ := HA1.out.cells
      have hlt := HA1.out.lt
      have HB1 : Hid _ := HB0.out.trans (hb.mono HB0.out.size)
      clear hb HA0 HB0
      go_wp2
      go_ret
      rw [HQ.out]
      exact ⟨rfl, HB1.out.alloc HB1.out.size _⟩
    · have HQ : Hid (EntMath.right e = false) := by
        exact HR.out.2 (fun h => hx (Prod.mk.inj h).1)
      have HX : Hid _ := hx
      clear HR hfx hF hx
      unfold entV at *
      go_enter Tryz.func12, Tryz.ntmps12
      go_wp2_with fail
      refine Calls.mono (HC.out _ HT0.out) ?_
      rintro r w1 ⟨rfl, hb⟩
      have HA1 : Hid _ := HA0.out.later hb HA0.out.lt
      obtain ⟨c0, c1, c2, c3, c4, c5⟩ := HA1.out.cells
      have hlt := HA1.out.lt
      have HB1 : Hid _ := HB0.out.trans (hb.mono HB0.out.size)
      clear hb HA0 HB0
      go_wp2
      all_goals first
        | (go_ret; rw [HQ.out]; exact ⟨rfl, HB1.out.alloc HB1.out.size _⟩)
        | (exfalso; have hx := HX.out; rw [ent_eq_iff] at hx; simp_all)
end Go.Proofs.YteockpllnhjooaaGreatDoor
