/-
  Walks of dot.compare, dot.Less, dot.Right.
-/
import Derived.Test.YtehaeepihjookaaFnDotH
import Derived.Test.YtehaeepihjookaaKit
import Derived.Deep.Cut
namespace Go.Proofs.Ytehaeepihjookaa
open Go.RowKit NumMath
open DotMath (Dt)
open Go.Sort (grow grow_grow alloc_eq_grow)
set_option maxRecDepth 100000
set_option linter.unusedVariables false
set_option linter.unusedSimpArgs false

theorem below_grow (w : World) (q : Nat) (os : Array Obj) : Below w.heap.size w (grow (w.drewN q) os) :=
  by
  have hg : w.grownBy (grow (w.drewN q) os) none := ⟨rfl, rfl, rfl, by simp [grow, World.drewN], fun k hk _ => by rw [Go.Sort.heap_grow_old _ _ (by simpa [World.drewN] using hk)]; rfl⟩
  exact (Below.refl _ w).grown hg (Nat.le_refl _) (fun k hk => by cases hk)

set_option maxHeartbeats 4000000 in
theorem dotCompare_grow (x y : Int × Int) (w : World) : Calls Try.prog 26 #[.agg #[.int .i64 x.1, .int .i64 x.2], .agg #[.int .i64 y.1, .int .i64 y.2]] w fun e w' => e = .returned (.int .i64 (DotMath.cf x y)) ∧ ∃ q os, w' = grow (w.drewN q) os := by
  have HI : Hid (∀ x y w, _) := fun x y w => compare_int x y w
  have HJ : Hid (∀ x y w, _) := fun x y w => compare_int64 x y w
  have HO : Hid (∀ x y g w h0 h1, _) := fun x y g w h0 h1 => or_two x y g w h0 h1
  obtain ⟨x1, x2⟩ := x
  obtain ⟨y1, y2⟩ := y
  dsimp only
  have HC : Hid (DotMath.cf (x1, x2) (y1, y2) = if DotMath.sg x1 y1 = 0 then DotMath.sg x2 y2 else DotMath.sg x1 y1) := rfl
  generalize DotMath.cf (x1, x2) (y1, y2) = r at *
  have HA : Hid (DtAt (w.alloc (.cells #[.int .i64 x1, .int .i64 x2] 23)) w.heap.size ⟨x1, x2⟩) := DtAt.new w ⟨x1, x2⟩ rfl
  have HA2 : Hid (DtAt ((w.alloc (.cells #[.int .i64 x1, .int .i64 x2] 23)).alloc (.cells #[.int .i64 y1, .int .i64 y2] 23)) w.heap.size ⟨x1, x2⟩) := HA.out.alloc _
  have HB2 : Hid (DtAt ((w.alloc (.cells #[.int .i64 x1, .int .i64 x2] 23)).alloc (.cells #[.int .i64 y1, .int .i64 y2] 23)) (w.heap.size + 1) ⟨y1, y2⟩) := DtAt.new _ ⟨y1, y2⟩ (by simp)
  have HG : Hid ((w.alloc (.cells #[.int .i64 x1, .int .i64 x2] 23)).alloc (.cells #[.int .i64 y1, .int .i64 y2] 23) = grow w #[.cells #[.int .i64 x1, .int .i64 x2] 23 (0, 0), .cells #[.int .i64 y1, .int .i64 y2] 23 (0, 0)]) := by
    show _ = _; rw [alloc_eq_grow, alloc_eq_grow, grow_grow]; rfl
  clear HA
  go_enter Try.func26, Try.ntmps26
  go_upto_region 1 with (fail)
  generalize (w.alloc (.cells #[.int .i64 x1, .int .i64 x2] 23)).alloc (.cells #[.int .i64 y1, .int .i64 y2] 23) = w2 at *
  have HA3 : Hid (DtAt w2.drew w.heap.size ⟨x1, x2⟩) := HA2.out.drew
  have HB3 : Hid (DtAt w2.drew (w.heap.size + 1) ⟨y1, y2⟩) := HB2.out.drew
  have HG3 : Hid (w2.drew = w2.drewN 1) := rfl
  clear HA2 HB2
  obtain ⟨p0, p1⟩ := HA3.out.cells
  obtain ⟨q0, q1⟩ := HB3.out.cells
  dsimp only at p0 p1 q0 q1
  generalize w.heap.size = g at *
  refine wp_region_held_drew (S := fun w' => w'.cell? ⟨g, 0, none⟩ = some (.int .i64 x1) ∧ w'.cell? ⟨g, 1, none⟩ = some (.int .i64 x2) ∧ w'.cell? ⟨g + 1, 0, none⟩ = some (.int .i64 y1) ∧ w'.cell? ⟨g + 1, 1, none⟩ = some (.int .i64 y2)) (by kernel_rfl) ⟨p0, p1, q0, q1⟩ (fun hS => ?_)
  generalize w2.drew = v0 at *
  refine wpAnyH_take (i := 0) (v := ?_) rfl (by kernel_rfl) (by kernel_rfl) (by kernel_rfl) (fun _ _ _ h => h) (Or.inl ⟨by rfl, ?_⟩) hS ?_
  rotate_left 1
  · intro w hSw; (try dsimp only at hSw); go_simp <;> with_reducible rfl
  simp only [List.getElem_toArray, List.getElem_cons_zero, List.getElem_cons_succ, Act.put, List.setIfInBounds_toArray, List.set_cons_zero, List.set_cons_succ]
  refine wpAnyH_take (i := 1) (v := ?_) rfl (by kernel_rfl) (by kernel_rfl) (by kernel_rfl) (fun _ _ _ h => h) (Or.inl ⟨by rfl, ?_⟩) hS ?_
  rotate_left 1
  · intro w hSw; (try dsimp only at hSw); go_simp <;> with_reducible rfl
  simp only [List.getElem_toArray, List.getElem_cons_zero, List.getElem_cons_succ, Act.put, List.setIfInBounds_toArray, List.set_cons_zero, List.set_cons_succ]
  refine wpAnyH_take (i := 2) (v := ?_) rfl (by kernel_rfl) (by kernel_rfl) (by kernel_rfl) (fun _ _ _ h => h) (Or.inl ⟨by rfl, ?_⟩) hS ?_
  rotate_left 1
  · intro w hSw; (try dsimp only at hSw); go_simp <;> with_reducible rfl
  simp only [List.getElem_toArray, List.getElem_cons_zero, List.getElem_cons_succ, Act.put, List.setIfInBounds_toArray, List.set_cons_zero, List.set_cons_succ]
  refine wpAnyH_take (i := 3) (v := ?_) rfl (by kernel_rfl) (by kernel_rfl) (by kernel_rfl) (fun _ _ _ h => h) (Or.inl ⟨by rfl, ?_⟩) hS ?_
  rotate_left 1
  · intro w hSw; (try dsimp only at hSw); go_simp <;> with_reducible rfl
  simp only [List.getElem_toArray, List.getElem_cons_zero, List.getElem_cons_succ, Act.put, List.setIfInBounds_toArray, List.set_cons_zero, List.set_cons_succ]
  refine wpAnyH_take (i := 5) (v := ?_) rfl (by kernel_rfl) (by kernel_rfl) (by kernel_rfl) (fun _ _ _ h => h) (Or.inl ⟨by rfl, ?_⟩) hS ?_
  rotate_left 1
  · intro w hSw; (try dsimp only at hSw); go_simp <;> with_reducible rfl
  simp only [List.getElem_toArray, List.getElem_cons_zero, List.getElem_cons_succ, Act.put, List.setIfInBounds_toArray, List.set_cons_zero, List.set_cons_succ]
  refine wpAnyH_take (i := 6) (v := ?_) rfl (by kernel_rfl) (by kernel_rfl) (by kernel_rfl) (fun _ _ _ h => h) (Or.inl ⟨by rfl, ?_⟩) hS ?_
  rotate_left 1
  · intro w hSw; (try dsimp only at hSw); go_simp <;> with_reducible rfl
  simp only [List.getElem_toArray, List.getElem_cons_zero, List.getElem_cons_succ, Act.put, List.setIfInBounds_toArray, List.set_cons_zero, List.set_cons_succ]
  refine wpAnyH_take (i := 7) (v := ?_) rfl (by kernel_rfl) (by kernel_rfl) (by kernel_rfl) (fun _ _ _ h => h) (Or.inl ⟨by rfl, ?_⟩) hS ?_
  rotate_left 1
  · intro w hSw; (try dsimp only at hSw); go_simp <;> with_reducible rfl
  simp only [List.getElem_toArray, List.getElem_cons_zero, List.getElem_cons_succ, Act.put, List.setIfInBounds_toArray, List.set_cons_zero, List.set_cons_succ]
  refine wpAnyH_take (i := 8) (v := ?_) rfl (by kernel_rfl) (by kernel_rfl) (by kernel_rfl) (fun _ _ _ h => h) (Or.inl ⟨by rfl, ?_⟩) hS ?_
  rotate_left 1
  · intro w hSw; (try dsimp only at hSw); go_simp <;> with_reducible rfl
  simp only [List.getElem_toArray, List.getElem_cons_zero, List.getElem_cons_succ, Act.put, List.setIfInBounds_toArray, List.set_cons_zero, List.set_cons_succ]
  refine wpAnyH_ready (rs := [4]) (by kernel_rfl) (by simp) ?_
  refine AllReadyH.cons rfl (fun K hK => ?_) AllReadyH.nil
  go_simp
  refine Calls.mono (HI.out _ _ _) ?_
  rintro e w1 ⟨rfl, hw⟩
  rw [hw]
  clear hw w1
  refine hK.out _ _ ⟨p0, p1, q0, q1⟩ (fun hS => ?_)
  clear hK K
  refine wpAnyH_ready (rs := [9]) (by kernel_rfl) (by simp) ?_
  refine AllReadyH.cons rfl (fun K hK => ?_) AllReadyH.nil
  go_simp
  refine Calls.mono (HJ.out _ _ _) ?_
  rintro e w1 ⟨rfl, hw⟩
  rw [hw]
  clear hw w1
  refine hK.out _ _ ⟨p0, p1, q0, q1⟩ (fun hS => ?_)
  clear hK K
  refine wpAnyH_ready (rs := [10]) (by kernel_rfl) (by simp) ?_
  refine AllReadyH.cons rfl (fun K hK => ?_) AllReadyH.nil
  go_simp
  generalize DotMath.sg x1 y1 = s1 at *
  generalize DotMath.sg x2 y2 = s2 at *
  have HAr : Hid (Arr (v0.alloc (.cells #[.int .i64 s1, .int .i64 s2] 3)) v0.heap.size 3 [.int .i64 s1, .int .i64 s2]) := Arr.new v0 3 _ rfl
  obtain ⟨r0, r1⟩ : (v0.alloc (.cells #[.int .i64 s1, .int .i64 s2] 3)).cell? ⟨v0.heap.size, 0, none⟩ = some (.int .i64 s1) ∧ (v0.alloc (.cells #[.int .i64 s1, .int .i64 s2] 3)).cell? ⟨v0.heap.size, 1, none⟩ = some (.int .i64 s2) := ⟨Arr.cell HAr.out 0, Arr.cell HAr.out 1⟩
  have hO2 := HO.out s1 s2 v0.heap.size _ r0 r1
  rw [← HC.out] at hO2
  have HO2 : Hid _ := hO2
  clear hO2
  have HA4 := (HA3.out.alloc (.cells #[.int .i64 s1, .int .i64 s2] 3)).cells
  have HB4 := (HB3.out.alloc (.cells #[.int .i64 s1, .int .i64 s2] 3)).cells
  refine hK.out _ _ ⟨HA4.1, HA4.2, HB4.1, HB4.2⟩ (fun hS => ?_)
  clear hK K r0 r1 HA3 HB3 p0 p1 q0 q1 HO HI HJ HAr
  clear HC
  have HG4 : Hid (v0.alloc (.cells #[.int .i64 s1, .int .i64 s2] 3) = grow v0 #[.cells #[.int .i64 s1, .int .i64 s2] 3 (0, 0)]) := by show _ = _; rw [alloc_eq_grow]
  generalize v0.alloc (.cells #[.int .i64 s1, .int .i64 s2] 3) = w4 at *
  generalize v0.heap.size = g4 at *
  refine wpAnyH_ready (rs := [11]) (by kernel_rfl) (by simp) ?_
  refine AllReadyH.cons rfl (fun K hK => ?_) AllReadyH.nil
  go_simp
  refine Calls.mono HO2.out ?_
  rintro e w1 ⟨rfl, hw⟩
  rw [hw]
  clear hw w1
  refine hK.out _ _ ⟨HA4.1, HA4.2, HB4.1, HB4.2⟩ (fun hS => ?_)
  clear hK K HA4 HB4 HO2
  refine wpAnyH_take (i := 12) (v := ?_) rfl (by kernel_rfl) (by kernel_rfl) (by kernel_rfl) (fun _ _ _ h => h) (Or.inl ⟨by rfl, ?_⟩) hS ?_
  rotate_left 1
  · intro w hSw; (try dsimp only at hSw); go_simp <;> with_reducible rfl
  simp only [List.getElem_toArray, List.getElem_cons_zero, List.getElem_cons_succ, Act.put, List.setIfInBounds_toArray, List.set_cons_zero, List.set_cons_succ]
  refine wpAnyH_done (by kernel_rfl) ?_ _
  go_wp2
  go_ret
  exact ⟨rfl, 1, #[.cells #[.int .i64 x1, .int .i64 x2] 23 (0, 0), .cells #[.int .i64 y1, .int .i64 y2] 23 (0, 0)] ++ #[.cells #[.int .i64 s1, .int .i64 s2] 3 (0, 0)], by rw [HG4.out, HG3.out, HG.out]; exact grow_grow (w.drewN 1) _ _⟩

theorem dotLess_any (a b : Dt) (w : World) : Calls Try.prog 11 #[dtV a, dtV b] w fun e w' => e = .returned (.bool (DotMath.less a b)) ∧ Below w.heap.size w w' := by
  have HC : Hid (∀ w, Calls Try.prog 26 #[.agg #[.int .i64 a.r, .int .i64 a.s], .agg #[.int .i64 b.r, .int .i64 b.s]] w fun e w' => e = .returned (.int .i64 (DotMath.cf (DotMath.pr a) (DotMath.pr b))) ∧ Below w.heap.size w w') := fun w =>
    (dotCompare_grow (DotMath.pr a) (DotMath.pr b) w).mono (by rintro e w' ⟨rfl, q, os, rfl⟩; exact ⟨rfl, below_grow w q os⟩)
  have HL : Hid (decide (DotMath.cf (DotMath.pr a) (DotMath.pr b) < 0) = DotMath.less a b) := DotMath.cf_lt (DotMath.pr a) (DotMath.pr b)
  have HB : Hid (Below w.heap.size w ((w.alloc (.cells #[.int .i64 a.r, .int .i64 a.s] 23)).alloc (.cells #[.int .i64 b.r, .int .i64 b.s] 23))) := ((Below.refl _ _).alloc (Nat.le_refl _) _).alloc (by simp) _
  unfold dtV
  generalize DotMath.cf (DotMath.pr a) (DotMath.pr b) = c at *
  generalize DotMath.less a b = l at *
  go_enter Try.func11, Try.ntmps11
  go_wp2_with fail
  refine Calls.mono (HC.out _) ?_
  rintro e w1 ⟨rfl, hb⟩
  have HB1 : Hid _ := HB.out.trans (hb.mono HB.out.size)
  clear hb HB HC
  go_wp2
  go_ret
  exact ⟨by rw [← HL.out]; rfl, HB1.out⟩
theorem dotRight_any (d : Dt) (w : World) : Calls Try.prog 9 #[dtV d] w fun e w' => e = .returned (.bool (DotMath.right d)) ∧ Below w.heap.size w w' := by
  obtain ⟨r, s⟩ := d
  unfold dtV
  dsimp only
  rcases dright_cases r s with ⟨h0, H⟩ | ⟨⟨h0, h1⟩, H⟩ | ⟨⟨h0, h1, h2⟩, H⟩ | ⟨⟨h0, h1, h2, h3⟩, H⟩ | ⟨⟨h0, h1, h2, h3⟩, H⟩
  all_goals
    go_enter Try.func9, Try.ntmps9
    go_wp2
    go_ret
    rw [H.out]
    first
      | exact ⟨rfl, (Below.refl _ _).alloc (Nat.le_refl _) _⟩
      | exact ⟨congrArg (fun b => Ending.returned (.bool b)) (decide_eq_false (by omega : ¬ s ≤ 1099511627775)), (Below.refl _ _).alloc (Nat.le_refl _) _⟩
end Go.Proofs.Ytehaeepihjookaa
