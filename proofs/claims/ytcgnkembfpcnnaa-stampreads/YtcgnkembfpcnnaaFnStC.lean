/-
  Walk of stamp.Bytes.
-/
import Derived.Test.YtcgnkembfpcnnaaFnStA
import Derived.Test.YtcgnkembfpcnnaaFnFixed
import Derived.Test.YtcgnkembfpcnnaaFnChanged
import Derived.Test.YtcgnkembfpcnnaaLibConcat
namespace Go.Proofs.Ytcgnkembfpcnnaa
open Go.RowKit NumMath
open StMath (St cmpI or3)
set_option maxRecDepth 100000
set_option linter.unusedVariables false
set_option linter.unusedSimpArgs false

theorem bytes_nil (w : World) : Bytes w (.slice none 0 0) [] := ⟨none, 0, rfl, .inl rfl, by simp, by simp, by decide, fun _ => rfl⟩

set_option maxRecDepth 100000 in
set_option maxHeartbeats 4000000 in
theorem stBytes_any (s : St) (w : World) : Calls Try.prog 10 #[stV s] w fun e w' => ∃ v, e = .returned v ∧ Bytes w' v (StMath.bytes s) ∧ Below w.heap.size w w' := by
  have HR : Hid (∀ w, _) := fun w => stRight_any s w
  cases hq : StMath.right s with
  | false =>
    rw [hq] at HR
    have HE : Hid _ := StMath.bytes_no hq
    clear hq
    obtain ⟨p, l, r⟩ := s
    unfold stV at *
    dsimp only at *
    go_enter Try.func10, Try.ntmps10
    go_wp2_with fail
    refine Calls.mono (HR.out _) ?_
    rintro e w1 ⟨rfl, hb1⟩
    have HB1 : Hid (Below w.heap.size w w1) := ((Below.refl w.heap.size w).alloc (Nat.le_refl _) _).trans (hb1.mono (by simp))
    clear hb1
    go_wp2
    go_ret
    rw [HE.out]
    exact ⟨_, rfl, bytes_nil _, HB1.out⟩
  | true =>
    rw [hq] at HR
    obtain ⟨a0, a1, b0, b1, c0, c1⟩ := StMath.right_iff.1 hq
    have HE : Hid (StMath.bytes s = fixL 6 s.p ++ (fixL 2 s.l ++ fixL 1 s.r)) := by unfold Hid StMath.bytes; rw [if_pos hq]
    clear hq
    obtain ⟨p, l, r⟩ := s
    obtain ⟨x0, e0, l0, y0⟩ : ∃ xs : List Int, Hid (fixL (held 6) p = xs) ∧ Hid (xs.length = 6) ∧ Hid (∀ c ∈ xs, 0 ≤ c ∧ c ≤ 255) := ⟨_, rfl, fixL_len 6 p, fixL_byte 6 p⟩
    obtain ⟨x1, e1, l1, y1⟩ : ∃ xs : List Int, Hid (fixL (held 2) l = xs) ∧ Hid (xs.length = 2) ∧ Hid (∀ c ∈ xs, 0 ≤ c ∧ c ≤ 255) := ⟨_, rfl, fixL_len 2 l, fixL_byte 2 l⟩
    obtain ⟨x2, e2, l2, y2⟩ : ∃ xs : List Int, Hid (fixL (held 1) r = xs) ∧ Hid (xs.length = 1) ∧ Hid (∀ c ∈ xs, 0 ≤ c ∧ c ≤ 255) := ⟨_, rfl, fixL_len 1 r, fixL_byte 1 r⟩
    have HE : Hid (StMath.bytes ⟨p, l, r⟩ = x0 ++ (x1 ++ x2)) := by
      have a := e0.out
      have b := e1.out
      have c := e2.out
      rw [show held 6 = 6 from rfl] at a
      rw [show held 2 = 2 from rfl] at b
      rw [show held 1 = 1 from rfl] at c
      have d := HE.out
      dsimp only at d
      rw [a, b, c] at d
      exact d
    unfold stV at *
    dsimp only at *
    have k0 : IntKind.u64.wrap p = p := wraps64 p a0 (by rw [p64]; omega)
    have k1 : IntKind.u64.wrap l = l := wraps64 l b0 (by rw [p64]; omega)
    have k2 : IntKind.u64.wrap r = r := wraps64 r c0 (by rw [p64]; omega)
    go_enter Try.func10, Try.ntmps10
    go_wp2_with fail
    refine Calls.mono (HR.out _) ?_
    rintro e w1 ⟨rfl, hb1⟩
    have HB1 : Hid (Below w.heap.size w w1) := ((Below.refl w.heap.size w).alloc (Nat.le_refl _) _).trans (hb1.mono (by simp))
    have HA : Hid (StAt w1 w.heap.size ⟨p, l, r⟩) := (StAt.new w ⟨p, l, r⟩ rfl).later hb1 (by simp)
    clear hb1
    go_wp2
    refine wp_region_held_drew (S := fun w' => w'.cell? ⟨w.heap.size, 0, none⟩ = some (.int .i64 p) ∧ w'.cell? ⟨w.heap.size, 1, none⟩ = some (.int .i64 l) ∧ w'.cell? ⟨w.heap.size, 2, none⟩ = some (.int .i64 r)) (by kernel_rfl) HA.out.drew.cells (fun hS => ?_)
    refine wpAnyH_take (i := 0) (v := ?_) rfl (by kernel_rfl) (by kernel_rfl) (by kernel_rfl) (fun _ _ _ h => h) (Or.inl ⟨by rfl, ?_⟩) hS ?_
    rotate_left 1
    · intro w hSw; (try dsimp only at hSw); go_simp <;> with_reducible rfl
    simp only [List.getElem_toArray, List.getElem_cons_zero, List.getElem_cons_succ, Act.put, List.setIfInBounds_toArray, List.set_cons_zero, List.set_cons_succ]
    refine wpAnyH_take (i := 1) (v := ?_) rfl (by kernel_rfl) (by kernel_rfl) (by kernel_rfl) (fun _ _ _ h => h) (Or.inl ⟨by rfl, ?_⟩) hS ?_
    rotate_left 1
    · intro w hSw; (try dsimp only at hSw); go_simp <;> with_reducible rfl
    simp only [List.getElem_toArray, List.getElem_cons_zero, List.getElem_cons_succ, Act.put, List.setIfInBounds_toArray, List.set_cons_zero, List.set_cons_succ]
    refine wpAnyH_take (i := 2) (v := ?_) rfl (by kernel_rfl) (by kernel_rfl) (by kernel_rfl) (fun _ _ _ h => h) (Or.inl ⟨by rfl, ?_⟩) hS ?_
    rotate_left 1
    · intro w hSw; (try dsimp only at hSw); go_simp <;> with_reducible rfl
    simp only [List.getElem_toArray, List.getElem_cons_zero, List.getElem_cons_succ, Act.put, List.setIfInBounds_toArray, List.set_cons_zero, List.set_cons_succ]
    refine wpAnyH_take (i := 4) (v := ?_) rfl (by kernel_rfl) (by kernel_rfl) (by kernel_rfl) (fun _ _ _ h => h) (Or.inl ⟨by rfl, ?_⟩) hS ?_
    rotate_left 1
    · intro w hSw; (try dsimp only at hSw); go_simp <;> with_reducible rfl
    simp only [List.getElem_toArray, List.getElem_cons_zero, List.getElem_cons_succ, Act.put, List.setIfInBounds_toArray, List.set_cons_zero, List.set_cons_succ]
    refine wpAnyH_take (i := 5) (v := ?_) rfl (by kernel_rfl) (by kernel_rfl) (by kernel_rfl) (fun _ _ _ h => h) (Or.inl ⟨by rfl, ?_⟩) hS ?_
    rotate_left 1
    · intro w hSw; (try dsimp only at hSw); go_simp <;> with_reducible rfl
    simp only [List.getElem_toArray, List.getElem_cons_zero, List.getElem_cons_succ, Act.put, List.setIfInBounds_toArray, List.set_cons_zero, List.set_cons_succ]
    refine wpAnyH_take (i := 6) (v := ?_) rfl (by kernel_rfl) (by kernel_rfl) (by kernel_rfl) (fun _ _ _ h => h) (Or.inl ⟨by rfl, ?_⟩) hS ?_
    rotate_left 1
    · intro w hSw; (try dsimp only at hSw); go_simp <;> with_reducible rfl
    simp only [List.getElem_toArray, List.getElem_cons_zero, List.getElem_cons_succ, Act.put, List.setIfInBounds_toArray, List.set_cons_zero, List.set_cons_succ]
    refine wpAnyH_take (i := 8) (v := ?_) rfl (by kernel_rfl) (by kernel_rfl) (by kernel_rfl) (fun _ _ _ h => h) (Or.inl ⟨by rfl, ?_⟩) hS ?_
    rotate_left 1
    · intro w hSw; (try dsimp only at hSw); go_simp <;> with_reducible rfl
    simp only [List.getElem_toArray, List.getElem_cons_zero, List.getElem_cons_succ, Act.put, List.setIfInBounds_toArray, List.set_cons_zero, List.set_cons_succ]
    refine wpAnyH_take (i := 9) (v := ?_) rfl (by kernel_rfl) (by kernel_rfl) (by kernel_rfl) (fun _ _ _ h => h) (Or.inl ⟨by rfl, ?_⟩) hS ?_
    rotate_left 1
    · intro w hSw; (try dsimp only at hSw); go_simp <;> with_reducible rfl
    simp only [List.getElem_toArray, List.getElem_cons_zero, List.getElem_cons_succ, Act.put, List.setIfInBounds_toArray, List.set_cons_zero, List.set_cons_succ]
    refine wpAnyH_take (i := 10) (v := ?_) rfl (by kernel_rfl) (by kernel_rfl) (by kernel_rfl) (fun _ _ _ h => h) (Or.inl ⟨by rfl, ?_⟩) hS ?_
    rotate_left 1
    · intro w hSw; (try dsimp only at hSw); go_simp <;> with_reducible rfl
    simp only [List.getElem_toArray, List.getElem_cons_zero, List.getElem_cons_succ, Act.put, List.setIfInBounds_toArray, List.set_cons_zero, List.set_cons_succ]
    refine wpAnyH_ready (rs := [3]) (by kernel_rfl) (by simp) ?_
    refine AllReadyH.cons rfl (fun K hK => ?_) AllReadyH.nil
    go_simp
    refine Calls.mono (fixed_own p 6 _ x0 6 e0.out rfl (by omega) (by omega) (by decide) (by decide)) ?_
    rintro e w2 ⟨g0, rfl, hown0, hbx0⟩
    have HB2 : Hid (Below w1.heap.size w1 w2) := Below.trans ((Below.refl w1.heap.size w1).drew) hbx0
    have HO0 : Hid (Bytes w2 (.slice (some ⟨g0, 0, none⟩) 6 6) x0) := own_bytes hown0 y0.out
    have hsz0 := hbx0.size
    clear hown0
    refine hK.out _ _ (HA.out.later HB2.out HA.out.lt).cells (fun hS => ?_)
    clear hK K
    have HX0 : Hid _ := hbx0
    clear hbx0
    refine wpAnyH_ready (rs := [7]) (by kernel_rfl) (by simp) ?_
    refine AllReadyH.cons rfl (fun K hK => ?_) AllReadyH.nil
    go_simp
    refine Calls.mono (fixed_own l 2 _ x1 2 e1.out rfl (by omega) (by omega) (by decide) (by decide)) ?_
    rintro e w3 ⟨g1, rfl, hown1, hbx1⟩
    have HB3 : Hid (Below w1.heap.size w1 w3) := Below.trans HB2.out (hbx1.mono HB2.out.size)
    have HO1 : Hid (Bytes w3 (.slice (some ⟨g1, 0, none⟩) 2 2) x1) := own_bytes hown1 y1.out
    have hsz1 := hbx1.size
    clear hown1
    refine hK.out _ _ (HA.out.later HB3.out HA.out.lt).cells (fun hS => ?_)
    clear hK K
    have HX1 : Hid _ := hbx1
    clear hbx1
    refine wpAnyH_ready (rs := [11]) (by kernel_rfl) (by simp) ?_
    refine AllReadyH.cons rfl (fun K hK => ?_) AllReadyH.nil
    go_simp
    refine Calls.mono (fixed_own r 1 _ x2 1 e2.out rfl (by omega) (by omega) (by decide) (by decide)) ?_
    rintro e w4 ⟨g2, rfl, hown2, hbx2⟩
    have HB4 : Hid (Below w1.heap.size w1 w4) := Below.trans HB3.out (hbx2.mono HB3.out.size)
    have HO2 : Hid (Bytes w4 (.slice (some ⟨g2, 0, none⟩) 1 1) x2) := own_bytes hown2 y2.out
    have hsz2 := hbx2.size
    clear hown2
    refine hK.out _ _ (HA.out.later HB4.out HA.out.lt).cells (fun hS => ?_)
    clear hK K
    have HX2 : Hid _ := hbx2
    clear hbx2
    have hok0 : (Part.mk (some ⟨g0, 0, none⟩) x0 6).ok w4 := by
      obtain ⟨a, c, hv, hr, hb, hc, hm, hn⟩ := HO0.out
      rw [l0.out] at hv
      cases hv
      exact ⟨(hr.later HX1.out).later HX2.out, hb, by rw [l0.out]; exact Nat.le_refl _, by unfold maxLen; simp⟩
    have hok1 : (Part.mk (some ⟨g1, 0, none⟩) x1 2).ok w4 := by
      obtain ⟨a, c, hv, hr, hb, hc, hm, hn⟩ := HO1.out
      rw [l1.out] at hv
      cases hv
      exact ⟨hr.later HX2.out, hb, by rw [l1.out]; exact Nat.le_refl _, by unfold maxLen; simp⟩
    have hok2 : (Part.mk (some ⟨g2, 0, none⟩) x2 1).ok w4 := by
      obtain ⟨a, c, hv, hr, hb, hc, hm, hn⟩ := HO2.out
      rw [l2.out] at hv
      cases hv
      exact ⟨hr, hb, by rw [l2.out]; exact Nat.le_refl _, by unfold maxLen; simp⟩
    have hlp := lit_parts w4 [⟨some ⟨g0, 0, none⟩, x0, 6⟩, ⟨some ⟨g1, 0, none⟩, x1, 2⟩, ⟨some ⟨g2, 0, none⟩, x2, 1⟩] 28 _ rfl (by intro p hp; simp at hp; rcases hp with rfl | rfl | rfl; exact hok0; exact hok1; exact hok2)
    have hcat := concat_any (some ⟨w4.heap.size, 0, none⟩) [⟨some ⟨g0, 0, none⟩, x0, 6⟩, ⟨some ⟨g1, 0, none⟩, x1, 2⟩, ⟨some ⟨g2, 0, none⟩, x2, 1⟩] 3 _ hlp
      (by intro p hp h; simp at hp; rcases hp with rfl | rfl | rfl <;> cases h) (by simp) (by decide) (by have := l0.out; have := l1.out; have := l2.out; simp [allB]; omega)
    have hab : allB [⟨some ⟨g0, 0, none⟩, x0, 6⟩, ⟨some ⟨g1, 0, none⟩, x1, 2⟩, ⟨some ⟨g2, 0, none⟩, x2, 1⟩] = StMath.bytes ⟨p, l, r⟩ := by rw [HE.out]; simp [allB]
    rw [hab] at hcat
    simp only [List.map_cons, List.map_nil, Part.val, l0.out, l1.out, l2.out, List.length_cons, List.length_nil] at hcat
    have HC : Hid _ := hcat
    clear hok0 hok1 hok2 hlp hab hcat
    refine wpAnyH_ready (rs := [12]) (by kernel_rfl) (by simp) ?_
    refine AllReadyH.cons rfl (fun K hK => ?_) AllReadyH.nil
    go_simp
    refine hK.out _ _ ((HA.out.later HB4.out HA.out.lt).alloc _).cells (fun hS => ?_)
    clear hK K
    refine wpAnyH_ready (rs := [13]) (by kernel_rfl) (by simp) ?_
    refine AllReadyH.cons rfl (fun K hK => ?_) AllReadyH.nil
    go_simp
    refine Calls.mono HC.out ?_
    rintro e w5 ⟨v5, rfl, hown5, hbx5⟩
    have HB5 : Hid (Below w.heap.size w w5) := (HB1.out.trans (HB4.out.mono HB1.out.size)).trans ((((Below.refl w4.heap.size w4).alloc (Nat.le_refl _) _).trans (hbx5.mono (by simp))).mono (HB1.out.trans (HB4.out.mono HB1.out.size)).size)
    have HO5 : Hid (Bytes w5 v5 (StMath.bytes ⟨p, l, r⟩)) := own_bytes hown5 (StMath.bytes_byte _)
    refine hK.out _ _ ((HA.out.later HB4.out HA.out.lt).alloc _ |>.later hbx5 (by simp; have := (HA.out.later HB4.out HA.out.lt).lt; omega)).cells (fun hS => ?_)
    clear hK K hown5 hbx5
    refine wpAnyH_take (i := 14) (v := ?_) rfl (by kernel_rfl) (by kernel_rfl) (by kernel_rfl) (fun _ _ _ h => h) (Or.inl ⟨by rfl, ?_⟩) hS ?_
    rotate_left 1
    · intro w hSw; (try dsimp only at hSw); go_simp <;> with_reducible rfl
    simp only [List.getElem_toArray, List.getElem_cons_zero, List.getElem_cons_succ, Act.put, List.setIfInBounds_toArray, List.set_cons_zero, List.set_cons_succ]
    refine wpAnyH_done (by kernel_rfl) ?_ _
    go_wp2
    go_ret
    exact ⟨_, rfl, HO5.out, HB5.out⟩
end Go.Proofs.Ytcgnkembfpcnnaa
