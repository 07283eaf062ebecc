/-
  Walks of hlc's hasReached and raise.
-/
import Derived.Test.YtecijlgkadlmnaaFnHlcA
import Derived.Test.YtecijlgkadlmnaaDrewN
namespace Go.Proofs.Ytecijlgkadlmnaa
open Go.RowKit NumMath
open StMath (St)
open HlcMath (Ck)
set_option maxRecDepth 100000
set_option linter.unusedVariables false
set_option linter.unusedSimpArgs false

/-- Whether Last is at s, of the same replica, or above it. -/
def reached (c : Ck) (p l : Int) : Bool := !decide (c.s.p < p ∨ (c.s.p = p ∧ c.s.l < l))
theorem reached_max (c : Ck) (p l : Int) : (StMath.maxS [c.s, ⟨p, l, c.s.r⟩] = c.s ∧ reached c p l = true) ∨ (StMath.maxS [c.s, ⟨p, l, c.s.r⟩] = ⟨p, l, c.s.r⟩ ∧ reached c p l = false ∧ (c.s.p = p → ¬ c.s.l = l)) := by
  unfold reached
  show (StMath.up c.s ⟨p, l, c.s.r⟩ = c.s ∧ _) ∨ (StMath.up c.s ⟨p, l, c.s.r⟩ = _ ∧ _)
  unfold StMath.up
  by_cases h : StMath.less c.s ⟨p, l, c.s.r⟩ = true
  · rw [if_pos h]
    rw [StMath.less_iff] at h
    right
    refine ⟨rfl, ?_, ?_⟩
    · simp only [Bool.not_eq_false', decide_eq_true_eq]
      dsimp only at h
      omega
    · intro e1 e2
      dsimp only at h
      omega
  · rw [if_neg h]
    have h2 : StMath.less c.s ⟨p, l, c.s.r⟩ = false := by simpa using h
    rw [StMath.less_no] at h2
    left
    refine ⟨rfl, ?_⟩
    simp only [Bool.not_eq_true', decide_eq_false_iff_not]
    dsimp only at h2
    omega
theorem lit2_srow (w : World) (a b : St) {g : Nat} (hg : g = w.heap.size) : SRow (w.alloc (.cells #[.int .i64 a.p, .int .i64 a.l, .int .i64 a.r, .int .i64 b.p, .int .i64 b.l, .int .i64 b.r] 32)) (some ⟨g, 0, none⟩) [a, b] := by
  right
  refine ⟨g, 0, rfl, ?_⟩
  intro i hi j v hv
  have hA := Arr.new w 32 (stL a ++ stL b) hg
  have hj : j < 3 := by have := (List.getElem?_eq_some_iff.1 hv).1; simpa [stL] using this
  have hc := Arr.cell hA (0 + i * 3 + j)
  refine Eq.trans hc ?_
  rw [← hv]
  rcases (by simp at hi; omega : i = 0 ∨ i = 1) with rfl | rfl <;> rcases (by omega : j = 0 ∨ j = 1 ∨ j = 2) with rfl | rfl | rfl <;> rfl

set_option maxRecDepth 100000 in
set_option maxHeartbeats 4000000 in
theorem hasReached_any (g : Nat) (c : Ck) (p l : Int) (w : World) (hc : CkAt w g c) :
    Calls Try.prog 33 #[.pointer (some ⟨g, 0, none⟩), stV ⟨p, l, c.s.r⟩] w fun e w' => e = .returned (.bool (reached c p l)) ∧ Below w.heap.size w w' := by
  obtain ⟨M, hM⟩ : ∃ M, M = StMath.maxS [c.s, ⟨p, l, c.s.r⟩] := ⟨_, rfl⟩
  have HM : Hid (∀ g w, SRow w (some ⟨g, 0, none⟩) [c.s, ⟨p, l, c.s.r⟩] → Calls Try.prog 34 #[.slice (some ⟨g, 0, none⟩) 2 2] w fun e w' => e = .returned (stV M) ∧ Below w.heap.size w w') := fun g w hr => by
    rw [hM]; exact stMax_any (some ⟨g, 0, none⟩) [c.s, ⟨p, l, c.s.r⟩] 2 w hr (Nat.le_refl _) (by decide)
  have HE : Hid (eqT M c.s = reached c p l) := by
    unfold Hid
    rcases reached_max c p l with ⟨h1, h2⟩ | ⟨h1, h2, h3⟩
    · rw [hM, h1, h2]; exact eqT_self _
    · rw [hM, h1, h2]
      apply eqT_no
      intro e
      have e1 : p = c.s.p := congrArg St.p e
      have e2 : l = c.s.l := congrArg St.l e
      exact h3 e1.symm e2.symm
  clear hM
  unfold stV at HM ⊢
  dsimp only
  go_enter Try.func33, Try.ntmps33
  go_wp2
  have HB0 : Hid (Below w.heap.size w (w.alloc (.cells #[.int .i64 p, .int .i64 l, .int .i64 c.s.r] 32))) := (Below.refl _ _).alloc (Nat.le_refl _) _
  have HC1 : Hid (CkAt (w.alloc (.cells #[.int .i64 p, .int .i64 l, .int .i64 c.s.r] 32)) g c) := hc.alloc _
  have HS1 : Hid (StAt (w.alloc (.cells #[.int .i64 p, .int .i64 l, .int .i64 c.s.r] 32)) w.heap.size ⟨p, l, c.s.r⟩) := StAt.new w ⟨p, l, c.s.r⟩ rfl
  clear hc
  generalize w.alloc (.cells #[.int .i64 p, .int .i64 l, .int .i64 c.s.r] 32) = w1 at *
  obtain ⟨c0, c1, c2, _, _⟩ := HC1.out.drew.cells
  obtain ⟨d0, d1, d2⟩ := HS1.out.drew.cells
  refine wp_region_held_drew (S := fun w' => w'.cell? ⟨g, 0, none⟩ = some (.int .i64 c.s.p) ∧ w'.cell? ⟨g, 1, none⟩ = some (.int .i64 c.s.l) ∧ w'.cell? ⟨g, 2, none⟩ = some (.int .i64 c.s.r) ∧ w'.cell? ⟨w.heap.size, 0, none⟩ = some (.int .i64 p) ∧ w'.cell? ⟨w.heap.size, 1, none⟩ = some (.int .i64 l) ∧ w'.cell? ⟨w.heap.size, 2, none⟩ = some (.int .i64 c.s.r)) (by kernel_rfl) ⟨c0, c1, c2, d0, d1, d2⟩ (fun hS => ?_)
  refine wpAnyH_take (i := 0) (v := ?_) rfl (by kernel_rfl) (by kernel_rfl) (by kernel_rfl) (fun _ _ _ h => h) (Or.inl ⟨by rfl, ?_⟩) hS ?_
  rotate_left 1
  · intro w hSw; (try dsimp only at hSw); go_simp <;> with_reducible rfl
  simp only [List.getElem_toArray, List.getElem_cons_zero, List.getElem_cons_succ, Act.put, List.setIfInBounds_toArray, List.set_cons_zero, List.set_cons_succ]
  refine wpAnyH_take (i := 1) (v := ?_) rfl (by kernel_rfl) (by kernel_rfl) (by kernel_rfl) (fun _ _ _ h => h) (Or.inl ⟨by rfl, ?_⟩) hS ?_
  rotate_left 1
  · intro w hSw; (try dsimp only at hSw); go_simp <;> with_reducible rfl
  simp only [List.getElem_toArray, List.getElem_cons_zero, List.getElem_cons_succ, Act.put, List.setIfInBounds_toArray, List.set_cons_zero, List.set_cons_succ]
  refine wpAnyH_take (i := 2) (v := ?_) rfl (by kernel_rfl) (by kernel_rfl) (by kernel_rfl) (fun _ _ _ h => h) (Or.inl ⟨by rfl, ?_⟩) hS ?_
  rotate_left 1
  · intro w hSw; (try dsimp only at hSw); go_simp <;> with_reducible rfl
  simp only [List.getElem_toArray, List.getElem_cons_zero, List.getElem_cons_succ, Act.put, List.setIfInBounds_toArray, List.set_cons_zero, List.set_cons_succ]
  refine wpAnyH_take (i := 3) (v := ?_) rfl (by kernel_rfl) (by kernel_rfl) (by kernel_rfl) (fun _ _ _ h => h) (Or.inl ⟨by rfl, ?_⟩) hS ?_
  rotate_left 1
  · intro w hSw; (try dsimp only at hSw); go_simp <;> with_reducible rfl
  simp only [List.getElem_toArray, List.getElem_cons_zero, List.getElem_cons_succ, Act.put, List.setIfInBounds_toArray, List.set_cons_zero, List.set_cons_succ]
  refine wpAnyH_take (i := 4) (v := ?_) rfl (by kernel_rfl) (by kernel_rfl) (by kernel_rfl) (fun _ _ _ h => h) (Or.inl ⟨by rfl, ?_⟩) hS ?_
  rotate_left 1
  · intro w hSw; (try dsimp only at hSw); go_simp <;> with_reducible rfl
  simp only [List.getElem_toArray, List.getElem_cons_zero, List.getElem_cons_succ, Act.put, List.setIfInBounds_toArray, List.set_cons_zero, List.set_cons_succ]
  refine wpAnyH_take (i := 7) (v := ?_) rfl (by kernel_rfl) (by kernel_rfl) (by kernel_rfl) (fun _ _ _ h => h) (Or.inl ⟨by rfl, ?_⟩) hS ?_
  rotate_left 1
  · intro w hSw; (try dsimp only at hSw); go_simp <;> with_reducible rfl
  simp only [List.getElem_toArray, List.getElem_cons_zero, List.getElem_cons_succ, Act.put, List.setIfInBounds_toArray, List.set_cons_zero, List.set_cons_succ]
  refine wpAnyH_take (i := 8) (v := ?_) rfl (by kernel_rfl) (by kernel_rfl) (by kernel_rfl) (fun _ _ _ h => h) (Or.inl ⟨by rfl, ?_⟩) hS ?_
  rotate_left 1
  · intro w hSw; (try dsimp only at hSw); go_simp <;> with_reducible rfl
  simp only [List.getElem_toArray, List.getElem_cons_zero, List.getElem_cons_succ, Act.put, List.setIfInBounds_toArray, List.set_cons_zero, List.set_cons_succ]
  refine wpAnyH_take (i := 9) (v := ?_) rfl (by kernel_rfl) (by kernel_rfl) (by kernel_rfl) (fun _ _ _ h => h) (Or.inl ⟨by rfl, ?_⟩) hS ?_
  rotate_left 1
  · intro w hSw; (try dsimp only at hSw); go_simp <;> with_reducible rfl
  simp only [List.getElem_toArray, List.getElem_cons_zero, List.getElem_cons_succ, Act.put, List.setIfInBounds_toArray, List.set_cons_zero, List.set_cons_succ]
  refine wpAnyH_take (i := 10) (v := ?_) rfl (by kernel_rfl) (by kernel_rfl) (by kernel_rfl) (fun _ _ _ h => h) (Or.inl ⟨by rfl, ?_⟩) hS ?_
  rotate_left 1
  · intro w hSw; (try dsimp only at hSw); go_simp <;> with_reducible rfl
  simp only [List.getElem_toArray, List.getElem_cons_zero, List.getElem_cons_succ, Act.put, List.setIfInBounds_toArray, List.set_cons_zero, List.set_cons_succ]
  refine wpAnyH_ready (rs := [5]) (by kernel_rfl) (by simp) ?_
  refine AllReadyH.cons rfl (fun K hK => ?_) AllReadyH.nil
  go_simp
  have HB2 := HB0.out.drew.alloc HB0.out.size (.cells #[.int .i64 c.s.p, .int .i64 c.s.l, .int .i64 c.s.r, .int .i64 p, .int .i64 l, .int .i64 c.s.r] 32)
  have HB2 : Hid _ := HB2
  have HR2 : Hid (SRow (w1.drew.alloc (.cells #[.int .i64 c.s.p, .int .i64 c.s.l, .int .i64 c.s.r, .int .i64 p, .int .i64 l, .int .i64 c.s.r] 32)) (some ⟨w1.drew.heap.size, 0, none⟩) [c.s, ⟨p, l, c.s.r⟩]) := lit2_srow w1.drew c.s ⟨p, l, c.s.r⟩ rfl
  have HC2 : Hid _ := HC1.out.drew.alloc (.cells #[.int .i64 c.s.p, .int .i64 c.s.l, .int .i64 c.s.r, .int .i64 p, .int .i64 l, .int .i64 c.s.r] 32)
  have HS2 : Hid _ := HS1.out.drew.alloc (.cells #[.int .i64 c.s.p, .int .i64 c.s.l, .int .i64 c.s.r, .int .i64 p, .int .i64 l, .int .i64 c.s.r] 32)
  refine hK.out _ _ ⟨HC2.out.cells.1, HC2.out.cells.2.1, HC2.out.cells.2.2.1, HS2.out.cells.1, HS2.out.cells.2.1, HS2.out.cells.2.2⟩ (fun hS => ?_)
  clear hK K
  refine wpAnyH_ready (rs := [6]) (by kernel_rfl) (by simp) ?_
  refine AllReadyH.cons rfl (fun K hK => ?_) AllReadyH.nil
  go_simp
  refine Calls.mono (HM.out _ _ HR2.out) ?_
  rintro e w3 ⟨rfl, hb3⟩
  have HC3 : Hid (CkAt w3 g c) := HC2.out.later hb3 HC2.out.lt
  have HS3 : Hid (StAt w3 w.heap.size ⟨p, l, c.s.r⟩) := HS2.out.later hb3 HS2.out.lt
  have HB3 : Hid (Below w.heap.size w w3) := HB2.out.trans (hb3.mono HB2.out.size)
  refine hK.out _ _ ⟨HC3.out.cells.1, HC3.out.cells.2.1, HC3.out.cells.2.2.1, HS3.out.cells.1, HS3.out.cells.2.1, HS3.out.cells.2.2⟩ (fun hS => ?_)
  clear hK K
  rcases eqT_cases M c.s with ⟨h1, H⟩ | ⟨h1, h2, H⟩ | ⟨h1, h2, h3, H⟩ | ⟨h1, h2, h3, H⟩
  all_goals
    refine wpAnyH_take (i := 11) (v := ?_) rfl (by kernel_rfl) (by kernel_rfl) (by kernel_rfl) (fun _ _ _ h => h) (Or.inl ⟨by rfl, ?_⟩) hS ?_
    rotate_left 1
    · intro w hSw; (try dsimp only at hSw); go_simp <;> with_reducible rfl
    simp only [List.getElem_toArray, List.getElem_cons_zero, List.getElem_cons_succ, Act.put, List.setIfInBounds_toArray, List.set_cons_zero, List.set_cons_succ]
    refine wpAnyH_take (i := 12) (v := ?_) rfl (by kernel_rfl) (by kernel_rfl) (by kernel_rfl) (fun _ _ _ h => h) (Or.inl ⟨by rfl, ?_⟩) hS ?_
    rotate_left 1
    · intro w hSw; (try dsimp only at hSw); go_simp <;> with_reducible rfl
    simp only [List.getElem_toArray, List.getElem_cons_zero, List.getElem_cons_succ, Act.put, List.setIfInBounds_toArray, List.set_cons_zero, List.set_cons_succ]
    refine wpAnyH_done (by kernel_rfl) ?_ _
    go_wp2
    go_ret
    rw [← HE.out, H.out]
    exact ⟨rfl, HB3.out⟩

theorem raise_any (g : Nat) (c : Ck) (p l : Int) (w : World) (hc : CkAt w g c) :
    Calls Try.prog 27 #[.pointer (some ⟨g, 0, none⟩), stV ⟨p, l, c.s.r⟩] w fun e w' => e = .returned (.tuple #[]) ∧ CkAt w' g (HlcMath.raise c p l) ∧ w.grownBy w' (some g) := by
  have HR : Hid (∀ w, CkAt w g c → _) := fun w (hc : CkAt w g c) => hasReached_any g c p l w hc
  have HB0 : Hid (Below w.heap.size w (w.alloc (.cells #[.int .i64 p, .int .i64 l, .int .i64 c.s.r] 32))) := (Below.refl _ _).alloc (Nat.le_refl _) _
  have HC1 : Hid (CkAt (w.alloc (.cells #[.int .i64 p, .int .i64 l, .int .i64 c.s.r] 32)) g c) := hc.alloc _
  have HS1 : Hid (StAt (w.alloc (.cells #[.int .i64 p, .int .i64 l, .int .i64 c.s.r] 32)) w.heap.size ⟨p, l, c.s.r⟩) := StAt.new w ⟨p, l, c.s.r⟩ rfl
  have hcs : (reached c p l = true ∧ Hid (HlcMath.raise c p l = c)) ∨ (reached c p l = false ∧ Hid (HlcMath.raise c p l = { c with s := ⟨p, l, c.s.r⟩ })) := by
    unfold reached HlcMath.raise Hid
    by_cases h : c.s.p < p ∨ (c.s.p = p ∧ c.s.l < l)
    · right; simp [h]
    · left; simp [h]
  clear hc
  unfold stV at HR ⊢
  dsimp only
  rcases hcs with ⟨h, H⟩ | ⟨h, H⟩
  · rw [h] at HR
    go_enter Try.func27, Try.ntmps27
    go_wp2_with fail
    refine Calls.mono (HR.out _ HC1.out) ?_
    rintro e w2 ⟨rfl, hb2⟩
    have HC2 : Hid (CkAt w2 g c) := HC1.out.later hb2 HC1.out.lt
    have HB2 : Hid (Below w.heap.size w w2) := HB0.out.trans (hb2.mono HB0.out.size)
    clear hb2
    go_wp2
    refine bodyPost_end (v := .tuple #[]) (by simp [results, Try.results27]) rfl ?_
    rw [H.out]
    exact ⟨rfl, HC2.out, gr_of _ HB2.out⟩
  · rw [h] at HR
    go_enter Try.func27, Try.ntmps27
    go_wp2_with fail
    refine Calls.mono (HR.out _ HC1.out) ?_
    rintro e w2 ⟨rfl, hb2⟩
    have HC2 : Hid (CkAt w2 g c) := HC1.out.later hb2 HC1.out.lt
    have HS2 : Hid (StAt w2 w.heap.size ⟨p, l, c.s.r⟩) := HS1.out.later hb2 HS1.out.lt
    have HB2 : Hid (Below w.heap.size w w2) := HB0.out.trans (hb2.mono HB0.out.size)
    clear hb2
    go_wp2_with (first
      | refine wpList_load_mid rfl 32 (.tmp 3) rfl w.heap.size 0 rfl (stL ⟨p, l, c.s.r⟩) _ (range_of_arr HS2.out.arr) Try.underlying32 rfl sizeSt ?_
      | refine wpList_store_last rfl (.tmp 11) (.tmp 9) rfl g c ⟨p, l, c.s.r⟩ rfl rfl HC2.out ?_)
    refine bodyPost_end (v := .tuple #[]) (by simp [results, Try.results27]) rfl ?_
    rw [H.out]
    exact ⟨rfl, CkAt.row HC2.out, gr_setRow (gr_of _ HB2.out) _⟩
end Go.Proofs.Ytecijlgkadlmnaa
