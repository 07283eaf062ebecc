/-
  The walk of newsreelref1's Clock.Witness.
-/
import Derived.Test.YtecijlgkadlmnaaFnRefHlcB
namespace Go.Proofs.Ytecijlgkadlmnaa
open Go.RowKit NumMath
open StMath (St)
open HlcMath (Ck)
set_option maxRecDepth 100000
set_option linter.unusedVariables false
set_option linter.unusedSimpArgs false

/-- What Witness does: nothing, as it is refused; nothing, as Last is at it or above; Last is set. -/
theorem rwitness_cases (c : Ck) (now : Int) (s : St) (e : Int) (h : HlcMath.check c now s = e) :
    ((e == 0) = false ∧ Hid (HlcMath.witness c now s = c)) ∨
    ((e = 0 ∧ decide (c.s.p < s.p) = false ∧ (s.p == c.s.p) = false) ∧ Hid (HlcMath.witness c now s = c)) ∨
    ((e = 0 ∧ decide (c.s.p < s.p) = false ∧ (s.p == c.s.p) = true ∧ decide (c.s.l < s.l) = false) ∧ Hid (HlcMath.witness c now s = c)) ∨
    ((e = 0 ∧ decide (c.s.p < s.p) = true) ∧ Hid (HlcMath.witness c now s = ⟨⟨s.p, s.l, c.s.r⟩, c.m, c.d⟩)) ∨
    ((e = 0 ∧ decide (c.s.p < s.p) = false ∧ (s.p == c.s.p) = true ∧ decide (c.s.l < s.l) = true) ∧ Hid (HlcMath.witness c now s = ⟨⟨s.p, s.l, c.s.r⟩, c.m, c.d⟩)) := by
  unfold HlcMath.witness Hid HlcMath.raise
  rw [h]
  by_cases he : e = 0
  · by_cases h1 : c.s.p < s.p
    · right; right; right; left; simp [he, h1]
    by_cases h2 : s.p = c.s.p
    · by_cases h3 : c.s.l < s.l
      · right; right; right; right; simp [he, h2, h3]
      · right; right; left; simp [he, h2, h3]
    · right; left
      simp [he, h1, h2, Ne.symm h2]
  · left; simp [he]

set_option maxRecDepth 100000 in
set_option maxHeartbeats 8000000 in
theorem rwitness_any (g : Nat) (c : Ck) (now : Int) (s : St) (w : World) (hc : RkAt w g c) (ho : HlcMath.Ok c) :
    Calls Try.prog 25 #[.pointer (some ⟨g, 0, none⟩), .int .i64 now, stV s] w fun e w' => e = .returned (.int .i64 (HlcMath.check c now s)) ∧ RkAt w' g (HlcMath.witness c now s) ∧ w.grownBy w' (some g) := by
  have HA0 : Hid (StAt (w.alloc (.cells #[.int .i64 s.p, .int .i64 s.l, .int .i64 s.r] 32)) w.heap.size s) := StAt.new w s rfl
  have HB0 : Hid (Below w.heap.size w (w.alloc (.cells #[.int .i64 s.p, .int .i64 s.l, .int .i64 s.r] 32))) := (Below.refl _ _).alloc (Nat.le_refl _) _
  have HC0 : Hid (RkAt (w.alloc (.cells #[.int .i64 s.p, .int .i64 s.l, .int .i64 s.r] 32)) g c) := hc.alloc _
  have hg : g < w.heap.size := hc.lt
  have HK : Hid (∀ w, RkAt w g c → _) := fun w hc => rcheck_any g c now s w hc ho
  clear hc ho
  obtain ⟨e, hk⟩ : ∃ e, HlcMath.check c now s = e := ⟨_, rfl⟩
  have hcs := rwitness_cases c now s e hk
  rw [hk] at HK ⊢
  clear hk
  unfold stV at HK ⊢
  go_enter Try.func25, Try.ntmps25
  go_wp2_with (refine wpList_load_mid rfl 32 (.tmp 5) rfl w.heap.size 0 rfl (stL s) _ (range_of_arr HA0.out.arr) Try.underlying32 rfl sizeSt ?_)
  refine Calls.mono (HK.out _ HC0.out) ?_
  rintro e w2 ⟨rfl, hb2⟩
  have HA2 : Hid (StAt w2 w.heap.size s) := HA0.out.later hb2 HA0.out.lt
  have HC2 : Hid (RkAt w2 g c) := HC0.out.later hb2 HC0.out.lt
  have HB2 : Hid (Below w.heap.size w w2) := HB0.out.trans (hb2.mono HB0.out.size)
  clear hb2 HA0 HB0 HC0
  generalize w.heap.size = gs at HA2 hg ⊢
  have hne : Nonempty (Grown1 w2) := ⟨⟨w2, Below.refl _ _⟩⟩
  obtain ⟨l0, l1, l2⟩ := HA2.out.cells
  obtain ⟨k0, k1, k2, k3, k4⟩ := HC2.out.cells
  have l0' := fun m : Grown1 w2 => grown1_cell l0 m
  have l1' := fun m : Grown1 w2 => grown1_cell l1 m
  have k2' := fun m : Grown1 w2 => grown1_cell k2 m
  have k3' := fun m : Grown1 w2 => grown1_cell k3 m
  clear l0 l1 l2 k0 k1 k2 k3 k4
  rcases hcs with ⟨he, H⟩ | ⟨⟨rfl, q1, q2⟩, H⟩ | ⟨⟨rfl, q1, q2, q3⟩, H⟩ | ⟨⟨rfl, q1⟩, H⟩ | ⟨⟨rfl, q1, q2, q3⟩, H⟩
  all_goals
    go_wp2_with fail
    (try simp only [Act.put])
    refine wp_region_grow (by kernel_rfl) (by kernel_rfl) ?_
    repeat (go_big_quiet_step (fail))
    refine wpQuiet_nil ?_
    intro _ hw'
    obtain ⟨n1, hw''⟩ := hw'
    subst hw''
    have HA3 : Hid (StAt n1.w gs s) := HA2.out.later n1.below HA2.out.lt
    have HC3 : Hid (RkAt n1.w g c) := HC2.out.later n1.below HC2.out.lt
    have HB3 : Hid (Below w.heap.size w n1.w) := HB2.out.trans (n1.below.mono HB2.out.size)
    clear HA2 HC2 HB2 l0' l1' k2' k3'
    generalize n1.w = w3 at *
    clear hne n1
    go_wp2_with fail
  iterate 3
    go_ret
    rw [H.out]
    exact ⟨rfl, HC3.out, gr_of _ HB3.out⟩
  all_goals
    have HCd : Hid (RkAt w3.drew g c) := ⟨HC3.out.arr⟩
    have HGd : Hid (w.grownBy w3.drew (some g)) := gr_of _ HB3.out.drew
    obtain ⟨l0, l1, l2⟩ := HA3.out.drew.cells
    have hne : gs ≠ g := by omega
    refine wp_region_held_drew (S := fun w' => w'.cell? ⟨gs, 0, none⟩ = some (.int .i64 s.p) ∧ w'.cell? ⟨gs, 1, none⟩ = some (.int .i64 s.l)) (by kernel_rfl) ⟨l0, l1⟩ (fun hS => ?_)
    refine wpAnyH_take (i := 0) (v := ?_) rfl (by kernel_rfl) (by kernel_rfl) (by kernel_rfl) (fun _ _ _ h => h) (Or.inl ⟨by rfl, ?_⟩) hS ?_
    rotate_left 1
    · intro w hSw; (try dsimp only at hSw); go_simp <;> with_reducible rfl
    simp only [List.getElem_toArray, List.getElem_cons_zero, List.getElem_cons_succ, Act.put, List.setIfInBounds_toArray, List.set_cons_zero, List.set_cons_succ]
    refine wpAnyH_take (i := 1) (v := ?_) rfl (by kernel_rfl) (by kernel_rfl) (by kernel_rfl) (fun _ _ _ h => h) (Or.inl ⟨by rfl, ?_⟩) hS ?_
    rotate_left 1
    · intro w hSw; (try dsimp only at hSw); go_simp <;> with_reducible rfl
    simp only [List.getElem_toArray, List.getElem_cons_zero, List.getElem_cons_succ, Act.put, List.setIfInBounds_toArray, List.set_cons_zero, List.set_cons_succ]
    refine wpAnyH_take (i := 2) (v := ?_) rfl (by kernel_rfl) (by kernel_rfl) (by kernel_rfl) (fun _ _ _ h => h) (Or.inl ⟨by rfl, ?_⟩) hS ?_
    rotate_left 1
    · intro w hSw; (try dsimp only at hSw); go_simp <;> with_reducible rfl
    simp only [List.getElem_toArray, List.getElem_cons_zero, List.getElem_cons_succ, Act.put, List.setIfInBounds_toArray, List.set_cons_zero, List.set_cons_succ]
    refine wpAnyH_take (i := 3) (v := ?_) rfl (by kernel_rfl) (by kernel_rfl) (by kernel_rfl) (fun _ _ _ h => h) (Or.inl ⟨by rfl, ?_⟩) hS ?_
    rotate_left 1
    · intro w hSw; (try dsimp only at hSw); go_simp <;> with_reducible rfl
    simp only [List.getElem_toArray, List.getElem_cons_zero, List.getElem_cons_succ, Act.put, List.setIfInBounds_toArray, List.set_cons_zero, List.set_cons_succ]
    refine wpAnyH_take (i := 4) (v := ?_) rfl (by kernel_rfl) (by kernel_rfl) (by kernel_rfl) (fun _ _ _ h => h) (Or.inl ⟨by rfl, ?_⟩) hS ?_
    rotate_left 1
    · intro w hSw; (try dsimp only at hSw); go_simp <;> with_reducible rfl
    simp only [List.getElem_toArray, List.getElem_cons_zero, List.getElem_cons_succ, Act.put, List.setIfInBounds_toArray, List.set_cons_zero, List.set_cons_succ]
    refine wpAnyH_take (i := 5) (v := ?_) rfl (by kernel_rfl) (by kernel_rfl) (by kernel_rfl) (fun _ _ _ h => h) (Or.inl ⟨by rfl, ?_⟩) hS ?_
    rotate_left 1
    · intro w hSw; (try dsimp only at hSw); go_simp <;> with_reducible rfl
    simp only [List.getElem_toArray, List.getElem_cons_zero, List.getElem_cons_succ, Act.put, List.setIfInBounds_toArray, List.set_cons_zero, List.set_cons_succ]
    refine wpAnyH_take (i := 6) (v := ?_) rfl (by kernel_rfl) (by kernel_rfl) (by kernel_rfl) (fun _ _ _ h => h) (Or.inl ⟨by rfl, ?_⟩) hS ?_
    rotate_left 1
    · intro w hSw; (try dsimp only at hSw); go_simp <;> with_reducible rfl
    simp only [List.getElem_toArray, List.getElem_cons_zero, List.getElem_cons_succ, Act.put, List.setIfInBounds_toArray, List.set_cons_zero, List.set_cons_succ]
    refine wpAnyH_take (i := 7) (v := ?_) rfl (by kernel_rfl) (by kernel_rfl) (by kernel_rfl) (fun _ _ _ h => h) (Or.inl ⟨by rfl, ?_⟩) hS ?_
    rotate_left 1
    · intro w hSw; (try dsimp only at hSw); go_simp <;> with_reducible rfl
    simp only [List.getElem_toArray, List.getElem_cons_zero, List.getElem_cons_succ, Act.put, List.setIfInBounds_toArray, List.set_cons_zero, List.set_cons_succ]
    refine wpAnyH_take (i := 8) (v := ?_) rfl (by kernel_rfl) (by kernel_rfl) (by kernel_rfl) (fun _ _ _ h => h) (Or.inl ⟨by rfl, ?_⟩) hS ?_
    rotate_left 1
    · intro w hSw; (try dsimp only at hSw); go_simp <;> with_reducible rfl
    simp only [List.getElem_toArray, List.getElem_cons_zero, List.getElem_cons_succ, Act.put, List.setIfInBounds_toArray, List.set_cons_zero, List.set_cons_succ]
    have HCa : Hid (RkAt (w3.drew.setRow g ((rkL c).set 2 (.int .i64 s.p)).toArray) g ⟨⟨s.p, c.s.l, c.s.r⟩, c.m, c.d⟩) := ⟨Arr.row HCd.out.arr⟩
    have hSk : ∀ {u : World} (x : Array Value), (u.cell? ⟨gs, 0, none⟩ = some (.int .i64 s.p) ∧ u.cell? ⟨gs, 1, none⟩ = some (.int .i64 s.l)) → ((u.setRow g x).cell? ⟨gs, 0, none⟩ = some (.int .i64 s.p) ∧ (u.setRow g x).cell? ⟨gs, 1, none⟩ = some (.int .i64 s.l)) := fun x h => by
      rw [cell_setRow_other _ _ _ _ (by exact hne), cell_setRow_other _ _ _ _ (by exact hne)]; exact h
    refine wpAnyH_ready (rs := [9]) (by kernel_rfl) (by simp) ?_
    refine AllReadyH.cons rfl (fun K hK => ?_) AllReadyH.nil
    refine wp_store_c1 2 (.tmp 52) (.tmp 47) rfl g 2 58 (rkL c) (.int .i64 s.p) rfl rfl rfl HCd.out.arr (by kernel_rfl) (Nat.le_of_ble_eq_true rfl) rfl ?_
    refine hK.out _ _ (hSk _ hS) (fun hS => ?_)
    clear hK K
    refine wpAnyH_take (i := 10) (v := ?_) rfl (by kernel_rfl) (by kernel_rfl) (by kernel_rfl) (fun _ _ _ h => h) (Or.inl ⟨by rfl, ?_⟩) hS ?_
    rotate_left 1
    · intro w hSw; (try dsimp only at hSw); go_simp <;> with_reducible rfl
    simp only [List.getElem_toArray, List.getElem_cons_zero, List.getElem_cons_succ, Act.put, List.setIfInBounds_toArray, List.set_cons_zero, List.set_cons_succ]
    refine wpAnyH_take (i := 11) (v := ?_) rfl (by kernel_rfl) (by kernel_rfl) (by kernel_rfl) (fun _ _ _ h => h) (Or.inl ⟨by rfl, ?_⟩) hS ?_
    rotate_left 1
    · intro w hSw; (try dsimp only at hSw); go_simp <;> with_reducible rfl
    simp only [List.getElem_toArray, List.getElem_cons_zero, List.getElem_cons_succ, Act.put, List.setIfInBounds_toArray, List.set_cons_zero, List.set_cons_succ]
    refine wpAnyH_take (i := 12) (v := ?_) rfl (by kernel_rfl) (by kernel_rfl) (by kernel_rfl) (fun _ _ _ h => h) (Or.inl ⟨by rfl, ?_⟩) hS ?_
    rotate_left 1
    · intro w hSw; (try dsimp only at hSw); go_simp <;> with_reducible rfl
    simp only [List.getElem_toArray, List.getElem_cons_zero, List.getElem_cons_succ, Act.put, List.setIfInBounds_toArray, List.set_cons_zero, List.set_cons_succ]
    refine wpAnyH_ready (rs := [13]) (by kernel_rfl) (by simp) ?_
    refine AllReadyH.cons rfl (fun K hK => ?_) AllReadyH.nil
    refine wp_store_c1 3 (.tmp 55) (.tmp 49) rfl g 3 58 (rkL ⟨⟨s.p, c.s.l, c.s.r⟩, c.m, c.d⟩) (.int .i64 s.l) rfl rfl rfl HCa.out.arr (by kernel_rfl) (Nat.le_of_ble_eq_true rfl) rfl ?_
    refine hK.out _ _ (hSk _ hS) (fun hS => ?_)
    clear hK K
    refine wpAnyH_done (by kernel_rfl) ?_ _
    go_wp2
    go_ret
    rw [H.out]
    exact ⟨rfl, ⟨Arr.row HCa.out.arr⟩, gr_setRow (gr_setRow HGd.out _) _⟩

/-- What Floor does: nothing, as Last is above; Last is set; nothing changes by it; nothing, its Logic is more. -/
theorem rfloor_cases (c : Ck) (p : Int) :
    ((decide (c.s.p < HlcMath.held p) = true) ∧ Hid (HlcMath.floor c p = ⟨⟨HlcMath.held p, c.m, c.s.r⟩, c.m, c.d⟩)) ∨
    ((decide (c.s.p < HlcMath.held p) = false ∧ (HlcMath.held p == c.s.p) = true ∧ decide (c.s.l ≤ c.m) = true) ∧ Hid (HlcMath.floor c p = ⟨⟨HlcMath.held p, c.m, c.s.r⟩, c.m, c.d⟩)) ∨
    ((decide (c.s.p < HlcMath.held p) = false ∧ (HlcMath.held p == c.s.p) = true ∧ decide (c.s.l ≤ c.m) = false) ∧ Hid (HlcMath.floor c p = c)) ∨
    ((decide (c.s.p < HlcMath.held p) = false ∧ (HlcMath.held p == c.s.p) = false) ∧ Hid (HlcMath.floor c p = c)) := by
  unfold HlcMath.floor Hid HlcMath.raise
  generalize HlcMath.held p = q
  by_cases h1 : c.s.p < q
  · left; simp [h1]
  right
  by_cases h2 : q = c.s.p
  · by_cases h3 : c.s.l ≤ c.m
    · left
      refine ⟨⟨by simp [h1], by simp [h2], by simp [h3]⟩, ?_⟩
      by_cases h4 : c.s.l < c.m
      · rw [if_pos (.inr ⟨h2.symm, h4⟩)]
      · rw [if_neg (by omega)]
        obtain ⟨⟨a, b, d⟩, m, e⟩ := c
        dsimp only at *
        have : b = m := by omega
        subst h2 this
        rfl
    · right; left
      refine ⟨⟨by simp [h1], by simp [h2], by simp [h3]⟩, ?_⟩
      rw [if_neg (by omega)]
  · right; right
    refine ⟨⟨by simp [h1], by simp [h2]⟩, ?_⟩
    rw [if_neg (by omega)]

set_option maxRecDepth 100000 in
set_option maxHeartbeats 8000000 in
theorem rfloor_any (g : Nat) (c : Ck) (p : Int) (w : World) (hc : RkAt w g c) :
    Calls Try.prog 26 #[.pointer (some ⟨g, 0, none⟩), .int .i64 p] w fun e w' => e = .returned (.tuple #[]) ∧ RkAt w' g (HlcMath.floor c p) ∧ w.grownBy w' (some g) := by
  have HC2 : Hid (RkAt w g c) := hc
  have hcs := rfloor_cases c p
  clear hc
  have hhc := held_cases p
  generalize HlcMath.floor c p = F at *
  generalize HlcMath.held p = q at *
  have hne : Nonempty (Grown1 w) := ⟨⟨w, Below.refl _ _⟩⟩
  obtain ⟨k0, k1, k2, k3, k4⟩ := HC2.out.cells
  have k0' := fun m : Grown1 w => grown1_cell k0 m
  have k2' := fun m : Grown1 w => grown1_cell k2 m
  have k3' := fun m : Grown1 w => grown1_cell k3 m
  clear k0 k1 k2 k3 k4
  rcases hhc with ⟨h, H0⟩ | ⟨h, H0⟩ | ⟨⟨h, h2⟩, H0⟩
  all_goals
    (have H0' := H0.out; subst H0')
  · rcases hcs with ⟨q1, H⟩ | ⟨⟨q1, q2, q3⟩, H⟩ | ⟨⟨q1, q2, q3⟩, H⟩ | ⟨⟨q1, q2⟩, H⟩
    all_goals
      clear H0
      go_enter Try.func26, Try.ntmps26
      go_wp2_with fail
      (try simp only [Act.put])
      refine wp_region_grow (by kernel_rfl) (by kernel_rfl) ?_
      repeat (go_big_quiet_step (fail))
      refine wpQuiet_nil ?_
      intro _ hw'
      obtain ⟨n1, hw''⟩ := hw'
      subst hw''
      have HC3 : Hid (RkAt n1.w g c) := HC2.out.later n1.below HC2.out.lt
      have HB3 : Hid (Below w.heap.size w n1.w) := n1.below
      clear HC2 k0' k2' k3'
      generalize n1.w = w3 at *
      clear hne n1
      obtain ⟨k0, _, _, _, _⟩ := HC3.out.cells
      have HCa : Hid (RkAt (w3.setRow g ((rkL c).set 2 (.int .i64 0)).toArray) g ⟨⟨0, c.s.l, c.s.r⟩, c.m, c.d⟩) := ⟨Arr.row HC3.out.arr⟩
    iterate 2
      go_wp2_with (first
        | refine wpList_store_c1 rfl 2 (.tmp 44) (.tmp 37) rfl g 2 58 (rkL c) (.int .i64 0) rfl rfl rfl HC3.out.arr (by kernel_rfl) (Nat.le_of_ble_eq_true rfl) rfl ?_
        | refine wpList_store_c1 rfl 3 (.tmp 47) (.tmp 41) rfl g 3 58 (rkL ⟨⟨0, c.s.l, c.s.r⟩, c.m, c.d⟩) (.int .i64 c.m) rfl rfl rfl HCa.out.arr (by kernel_rfl) (Nat.le_of_ble_eq_true rfl) rfl ?_)
      refine bodyPost_end (v := .tuple #[]) (by simp [results, Try.results26]) rfl ?_
      rw [H.out]
      exact ⟨rfl, ⟨Arr.row HCa.out.arr⟩, gr_setRow (gr_setRow (gr_of _ HB3.out) _) _⟩
    all_goals
      go_wp2
      refine bodyPost_end (v := .tuple #[]) (by simp [results, Try.results26]) rfl ?_
      rw [H.out]
      exact ⟨rfl, HC3.out, gr_of _ HB3.out⟩
  · rcases hcs with ⟨q1, H⟩ | ⟨⟨q1, q2, q3⟩, H⟩ | ⟨⟨q1, q2, q3⟩, H⟩ | ⟨⟨q1, q2⟩, H⟩
    all_goals
      clear H0
      go_enter Try.func26, Try.ntmps26
      go_wp2_with fail
      (try simp only [Act.put])
      refine wp_region_grow (by kernel_rfl) (by kernel_rfl) ?_
      repeat (go_big_quiet_step (fail))
      refine wpQuiet_nil ?_
      intro _ hw'
      obtain ⟨n1, hw''⟩ := hw'
      subst hw''
      have HC3 : Hid (RkAt n1.w g c) := HC2.out.later n1.below HC2.out.lt
      have HB3 : Hid (Below w.heap.size w n1.w) := n1.below
      clear HC2 k0' k2' k3'
      generalize n1.w = w3 at *
      clear hne n1
      obtain ⟨k0, _, _, _, _⟩ := HC3.out.cells
      have HCa : Hid (RkAt (w3.setRow g ((rkL c).set 2 (.int .i64 281474976710655)).toArray) g ⟨⟨281474976710655, c.s.l, c.s.r⟩, c.m, c.d⟩) := ⟨Arr.row HC3.out.arr⟩
    iterate 2
      go_wp2_with (first
        | refine wpList_store_c1 rfl 2 (.tmp 44) (.tmp 37) rfl g 2 58 (rkL c) (.int .i64 281474976710655) rfl rfl rfl HC3.out.arr (by kernel_rfl) (Nat.le_of_ble_eq_true rfl) rfl ?_
        | refine wpList_store_c1 rfl 3 (.tmp 47) (.tmp 41) rfl g 3 58 (rkL ⟨⟨281474976710655, c.s.l, c.s.r⟩, c.m, c.d⟩) (.int .i64 c.m) rfl rfl rfl HCa.out.arr (by kernel_rfl) (Nat.le_of_ble_eq_true rfl) rfl ?_)
      refine bodyPost_end (v := .tuple #[]) (by simp [results, Try.results26]) rfl ?_
      rw [H.out]
      exact ⟨rfl, ⟨Arr.row HCa.out.arr⟩, gr_setRow (gr_setRow (gr_of _ HB3.out) _) _⟩
    all_goals
      go_wp2
      refine bodyPost_end (v := .tuple #[]) (by simp [results, Try.results26]) rfl ?_
      rw [H.out]
      exact ⟨rfl, HC3.out, gr_of _ HB3.out⟩
  · rcases hcs with ⟨q1, H⟩ | ⟨⟨q1, q2, q3⟩, H⟩ | ⟨⟨q1, q2, q3⟩, H⟩ | ⟨⟨q1, q2⟩, H⟩
    all_goals
      clear H0
      go_enter Try.func26, Try.ntmps26
      go_wp2_with fail
      (try simp only [Act.put])
      refine wp_region_grow (by kernel_rfl) (by kernel_rfl) ?_
      repeat (go_big_quiet_step (fail))
      refine wpQuiet_nil ?_
      intro _ hw'
      obtain ⟨n1, hw''⟩ := hw'
      subst hw''
      have HC3 : Hid (RkAt n1.w g c) := HC2.out.later n1.below HC2.out.lt
      have HB3 : Hid (Below w.heap.size w n1.w) := n1.below
      clear HC2 k0' k2' k3'
      generalize n1.w = w3 at *
      clear hne n1
      obtain ⟨k0, _, _, _, _⟩ := HC3.out.cells
      have HCa : Hid (RkAt (w3.setRow g ((rkL c).set 2 (.int .i64 q)).toArray) g ⟨⟨q, c.s.l, c.s.r⟩, c.m, c.d⟩) := ⟨Arr.row HC3.out.arr⟩
    iterate 2
      go_wp2_with (first
        | refine wpList_store_c1 rfl 2 (.tmp 44) (.tmp 37) rfl g 2 58 (rkL c) (.int .i64 q) rfl rfl rfl HC3.out.arr (by kernel_rfl) (Nat.le_of_ble_eq_true rfl) rfl ?_
        | refine wpList_store_c1 rfl 3 (.tmp 47) (.tmp 41) rfl g 3 58 (rkL ⟨⟨q, c.s.l, c.s.r⟩, c.m, c.d⟩) (.int .i64 c.m) rfl rfl rfl HCa.out.arr (by kernel_rfl) (Nat.le_of_ble_eq_true rfl) rfl ?_)
      refine bodyPost_end (v := .tuple #[]) (by simp [results, Try.results26]) rfl ?_
      rw [H.out]
      exact ⟨rfl, ⟨Arr.row HCa.out.arr⟩, gr_setRow (gr_setRow (gr_of _ HB3.out) _) _⟩
    all_goals
      go_wp2
      refine bodyPost_end (v := .tuple #[]) (by simp [results, Try.results26]) rfl ?_
      rw [H.out]
      exact ⟨rfl, HC3.out, gr_of _ HB3.out⟩
end Go.Proofs.Ytecijlgkadlmnaa
