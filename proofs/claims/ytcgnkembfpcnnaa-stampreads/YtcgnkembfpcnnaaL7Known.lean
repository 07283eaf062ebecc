/-
  Walk of newsreellaw7.known.
-/
import Derived.Test.YtcgnkembfpcnnaaFnStB
import Derived.Test.YtcgnkembfpcnnaaFnStC
import Derived.Test.YtcgnkembfpcnnaaFnStE
import Derived.Test.YtcgnkembfpcnnaaFnStF
namespace Go.Proofs.Ytcgnkembfpcnnaa
open Go.RowKit NumMath
open StMath (St)
set_option maxRecDepth 100000
set_option linter.unusedVariables false
set_option linter.unusedSimpArgs false

theorem flat_get : ∀ (ss : List St) (i j : Nat), i < ss.length → j < 3 → (ss.flatMap stL)[i * 3 + j]? = (stL (ss[i]?.getD StMath.zero))[j]?
  | [], i, j, h, _ => by simp at h
  | s :: ss, 0, j, _, hj => by
    rw [List.flatMap_cons, List.getElem?_append_left (by simp [stL]; omega)]
    simp
  | s :: ss, i + 1, j, h, hj => by
    rw [List.flatMap_cons, List.getElem?_append_right (by simp [stL]; omega), show (i + 1) * 3 + j - (stL s).length = i * 3 + j by simp [stL]; omega, flat_get ss i j (by simpa using h) hj]
    simp
theorem arr_srow {w : World} {g t : Nat} {ss : List St} (h : Arr w g t (ss.flatMap stL)) : SRow w (some ⟨g, 0, none⟩) ss := by
  refine .inr ⟨g, 0, rfl, fun i hi j v hj => ?_⟩
  have hj3 : j < 3 := by have := (List.getElem?_eq_some_iff.1 hj).1; simpa [stL] using this
  rw [show 0 + i * 3 + j = i * 3 + j by omega, Arr.cell h, flat_get ss i j hi hj3]
  exact hj
theorem bytes_string {w : World} {v : Value} {ys : List Int} (h : Bytes w v ys) : (convert 28 9 v).run Try.prog w = .ok (.string (strOfNums ys)) w := by
  obtain ⟨a, c, rfl, hr, _⟩ := h
  exact row_string hr
theorem str123 : strOfNums [0, 0, 0, 0, 0, 1, 0, 2, 3] = ⟨#[0, 0, 0, 0, 0, 1, 0, 2, 3]⟩ := by decide
theorem bytes123 : StMath.bytes ⟨1, 2, 3⟩ = [0, 0, 0, 0, 0, 1, 0, 2, 3] := by decide
theorem read123 : StMath.read [0, 0, 0, 0, 0, 1, 0, 2, 3] = (⟨1, 2, 3⟩, 0) := rfl

set_option maxRecDepth 100000 in
set_option maxHeartbeats 8000000 in
theorem known_any (w : World) : Calls Try.prog 7 #[] w fun e w' => e = .returned (.bool true) ∧ Below w.heap.size w w' := by
  have HR1 : Hid (∀ w, Calls Try.prog 11 #[.agg #[.int .i64 1, .int .i64 2, .int .i64 3]] w fun e w' => e = .returned (.bool true) ∧ Below w.heap.size w w') := fun w => stRight_any ⟨1, 2, 3⟩ w
  have HR2 : Hid (∀ w, Calls Try.prog 11 #[.agg #[.int .i64 0, .int .i64 0, .int .i64 64]] w fun e w' => e = .returned (.bool false) ∧ Below w.heap.size w w') := fun w => stRight_any ⟨0, 0, 64⟩ w
  have HL1 : Hid (∀ w, Calls Try.prog 8 #[.agg #[.int .i64 1, .int .i64 0, .int .i64 0], .agg #[.int .i64 1, .int .i64 2, .int .i64 3]] w fun e w' => e = .returned (.bool true) ∧ Below w.heap.size w w') := fun w => stLess_any ⟨1, 0, 0⟩ ⟨1, 2, 3⟩ w
  have HL2 : Hid (∀ w, Calls Try.prog 8 #[.agg #[.int .i64 1, .int .i64 2, .int .i64 3], .agg #[.int .i64 1, .int .i64 2, .int .i64 3]] w fun e w' => e = .returned (.bool false) ∧ Below w.heap.size w w') := fun w => stLess_any ⟨1, 2, 3⟩ ⟨1, 2, 3⟩ w
  have HBy : Hid (∀ w, Calls Try.prog 10 #[.agg #[.int .i64 1, .int .i64 2, .int .i64 3]] w fun e w' => ∃ v, e = .returned v ∧ Bytes w' v [0, 0, 0, 0, 0, 1, 0, 2, 3] ∧ Below w.heap.size w w') := fun w => by
    have := stBytes_any ⟨1, 2, 3⟩ w
    rw [bytes123] at this
    exact this
  have HRd : Hid (∀ g w, Row .u8 w (some ⟨g, 0, none⟩) [0, 0, 0, 0, 0, 1, 0, 2, 3] → Calls Try.prog 14 #[.slice (some ⟨g, 0, none⟩) 9 9] w fun e w' => e = .returned (.tuple #[.agg #[.int .i64 1, .int .i64 2, .int .i64 3], .int .i64 0]) ∧ Below w.heap.size w w') := fun g w hr => by
    have := stRead_any (some ⟨g, 0, none⟩) [0, 0, 0, 0, 0, 1, 0, 2, 3] 9 w hr (by decide) (by decide) (by decide)
    rw [read123] at this
    exact this
  have HMx : Hid (∀ g w, SRow w (some ⟨g, 0, none⟩) [StMath.zero, ⟨1, 2, 3⟩] → Calls Try.prog 16 #[.slice (some ⟨g, 0, none⟩) 2 2] w fun e w' => e = .returned (.agg #[.int .i64 1, .int .i64 2, .int .i64 3]) ∧ Below w.heap.size w w') := fun g w hr =>
    stMax_any (some ⟨g, 0, none⟩) [StMath.zero, ⟨1, 2, 3⟩] 2 w hr (by decide) (by decide)
  have HA0 : Hid (StAt (w.alloc (.cells #[.int .i64 0, .int .i64 0, .int .i64 0] 23)) w.heap.size StMath.zero) := StAt.new w StMath.zero rfl
  have HB0 : Hid (Below w.heap.size w (w.alloc (.cells #[.int .i64 0, .int .i64 0, .int .i64 0] 23))) := (Below.refl _ _).alloc (Nat.le_refl _) _
  go_enter Try.func7, Try.ntmps7
  go_wp2_with (refine wpList_store_st rfl (.tmp 1) (.tmp 4) rfl w.heap.size StMath.zero ⟨1, 2, 3⟩ rfl rfl HA0.out ?_)
  have HA1 : Hid (StAt ((w.alloc (.cells #[.int .i64 0, .int .i64 0, .int .i64 0] 23)).setRow w.heap.size (stL ⟨1, 2, 3⟩).toArray) w.heap.size ⟨1, 2, 3⟩) := StAt.row HA0.out
  have HB1 : Hid (Below w.heap.size w ((w.alloc (.cells #[.int .i64 0, .int .i64 0, .int .i64 0] 23)).setRow w.heap.size (stL ⟨1, 2, 3⟩).toArray)) := below_setRow HB0.out (Nat.le_refl _) _
  have e1 : w.heap.size + 1 = ((w.alloc (.cells #[.int .i64 0, .int .i64 0, .int .i64 0] 23)).setRow w.heap.size (stL ⟨1, 2, 3⟩).toArray).heap.size := by simp
  clear HA0 HB0
  generalize ((w.alloc (.cells #[.int .i64 0, .int .i64 0, .int .i64 0] 23)).setRow w.heap.size (stL ⟨1, 2, 3⟩).toArray) = w1 at *
  have HA2 : Hid (StAt (w1.alloc (.cells #[.int .u8 0, .int .u8 0, .int .u8 0, .int .u8 0, .int .u8 0, .int .u8 1, .int .u8 0, .int .u8 2, .int .u8 3] 5)) w.heap.size ⟨1, 2, 3⟩) := HA1.out.alloc _
  have HB2 : Hid (Below w.heap.size w (w1.alloc (.cells #[.int .u8 0, .int .u8 0, .int .u8 0, .int .u8 0, .int .u8 0, .int .u8 1, .int .u8 0, .int .u8 2, .int .u8 3] 5))) := HB1.out.alloc HB1.out.size _
  have HRw : Hid (Row .u8 (w1.alloc (.cells #[.int .u8 0, .int .u8 0, .int .u8 0, .int .u8 0, .int .u8 0, .int .u8 1, .int .u8 0, .int .u8 2, .int .u8 3] 5)) (some ⟨w.heap.size + 1, 0, none⟩) [0, 0, 0, 0, 0, 1, 0, 2, 3]) := lit_row w1 .u8 [0, 0, 0, 0, 0, 1, 0, 2, 3] 5 _ e1
  clear e1
  generalize w1.alloc (.cells #[.int .u8 0, .int .u8 0, .int .u8 0, .int .u8 0, .int .u8 0, .int .u8 1, .int .u8 0, .int .u8 2, .int .u8 3] 5) = w2 at *
  refine Calls.mono (HRd.out _ _ HRw.out) ?_
  rintro e w3 ⟨rfl, hb3⟩
  have HA3 : Hid (StAt w3 w.heap.size ⟨1, 2, 3⟩) := HA2.out.later hb3 HA2.out.lt
  have HB3 : Hid (Below w.heap.size w w3) := HB2.out.trans (hb3.mono HB2.out.size)
  have hlt3 := HA3.out.lt
  clear hb3 HA1 HB1 HA2 HB2 HRw
  have HX0 : Hid (StAt (w3.alloc (.cells #[.int .i64 0, .int .i64 0, .int .i64 0] 23)) w3.heap.size StMath.zero) := StAt.new w3 StMath.zero rfl
  go_wp2_with (refine wpList_store_st rfl (.tmp 2) (.tmp 8) rfl w3.heap.size StMath.zero ⟨1, 2, 3⟩ rfl rfl HX0.out ?_)
  have HX4 : Hid (StAt ((w3.alloc (.cells #[.int .i64 0, .int .i64 0, .int .i64 0] 23)).setRow w3.heap.size (stL ⟨1, 2, 3⟩).toArray) w3.heap.size ⟨1, 2, 3⟩) := StAt.row HX0.out
  have HA4 : Hid (StAt ((w3.alloc (.cells #[.int .i64 0, .int .i64 0, .int .i64 0] 23)).setRow w3.heap.size (stL ⟨1, 2, 3⟩).toArray) w.heap.size ⟨1, 2, 3⟩) := StAt.row_other (HA3.out.alloc _) _ (by omega)
  have HB4 : Hid (Below w.heap.size w ((w3.alloc (.cells #[.int .i64 0, .int .i64 0, .int .i64 0] 23)).setRow w3.heap.size (stL ⟨1, 2, 3⟩).toArray)) := below_setRow (HB3.out.alloc HB3.out.size _) HB3.out.size _
  clear HX0 HA3 HB3
  generalize (w3.alloc (.cells #[.int .i64 0, .int .i64 0, .int .i64 0] 23)).setRow w3.heap.size (stL ⟨1, 2, 3⟩).toArray = w4 at *
  generalize w3.heap.size = g2 at *
  have HX5 : Hid (StAt w4.drew g2 ⟨1, 2, 3⟩) := HX4.out.drew
  have HA5 : Hid (StAt w4.drew w.heap.size ⟨1, 2, 3⟩) := HA4.out.drew
  have HB5 : Hid (Below w.heap.size w w4.drew) := HB4.out.drew
  refine wp_region_held_drew (S := fun w' => w'.cell? ⟨w.heap.size, 0, none⟩ = some (.int .i64 1) ∧ w'.cell? ⟨w.heap.size, 1, none⟩ = some (.int .i64 2) ∧ w'.cell? ⟨w.heap.size, 2, none⟩ = some (.int .i64 3) ∧ w'.cell? ⟨g2, 0, none⟩ = some (.int .i64 1) ∧ w'.cell? ⟨g2, 1, none⟩ = some (.int .i64 2) ∧ w'.cell? ⟨g2, 2, none⟩ = some (.int .i64 3)) (by kernel_rfl) ⟨HA5.out.cells.1, HA5.out.cells.2.1, HA5.out.cells.2.2, HX5.out.cells.1, HX5.out.cells.2.1, HX5.out.cells.2.2⟩ (fun hS => ?_)
  clear HA4 HX4 HB4
  generalize w4.drew = v5 at *
  refine wpAnyH_take (i := 0) (v := ?_) rfl (by kernel_rfl) (by kernel_rfl) (by kernel_rfl) (fun _ _ _ h => h) (Or.inl ⟨by rfl, ?_⟩) hS ?_
  rotate_left 1
  · intro w hSw; (try dsimp only at hSw); go_simp <;> with_reducible rfl
  simp only [List.getElem_toArray, List.getElem_cons_zero, List.getElem_cons_succ, Act.put, List.setIfInBounds_toArray, List.set_cons_zero, List.set_cons_succ]
  refine wpAnyH_ready (rs := [1]) (by kernel_rfl) (by simp) ?_
  refine AllReadyH.cons rfl (fun K hK => ?_) AllReadyH.nil
  go_simp
  refine Calls.mono (HR1.out _) ?_
  rintro e v6 ⟨rfl, hbx⟩
  have HA6 : Hid (StAt v6 w.heap.size ⟨1, 2, 3⟩) := HA5.out.later hbx HA5.out.lt
  have HX6 : Hid (StAt v6 g2 ⟨1, 2, 3⟩) := HX5.out.later hbx HX5.out.lt
  have HB6 : Hid (Below w.heap.size w v6) := HB5.out.trans (hbx.mono HB5.out.size)
  refine hK.out _ _ ⟨HA6.out.cells.1, HA6.out.cells.2.1, HA6.out.cells.2.2, HX6.out.cells.1, HX6.out.cells.2.1, HX6.out.cells.2.2⟩ (fun hS => ?_)
  clear hK K hbx
  refine wpAnyH_take (i := 2) (v := ?_) rfl (by kernel_rfl) (by kernel_rfl) (by kernel_rfl) (fun _ _ _ h => h) (Or.inl ⟨by rfl, ?_⟩) hS ?_
  rotate_left 1
  · intro w hSw; (try dsimp only at hSw); go_simp <;> with_reducible rfl
  simp only [List.getElem_toArray, List.getElem_cons_zero, List.getElem_cons_succ, Act.put, List.setIfInBounds_toArray, List.set_cons_zero, List.set_cons_succ]
  refine wpAnyH_take (i := 3) (v := ?_) rfl (by kernel_rfl) (by kernel_rfl) (by kernel_rfl) (fun _ _ _ h => h) (Or.inl ⟨by rfl, ?_⟩) hS ?_
  rotate_left 1
  · intro w hSw; (try dsimp only at hSw); go_simp <;> with_reducible rfl
  simp only [List.getElem_toArray, List.getElem_cons_zero, List.getElem_cons_succ, Act.put, List.setIfInBounds_toArray, List.set_cons_zero, List.set_cons_succ]
  refine wpAnyH_ready (rs := [4]) (by kernel_rfl) (by simp) ?_
  refine AllReadyH.cons rfl (fun K hK => ?_) AllReadyH.nil
  go_simp
  refine Calls.mono (HR2.out _) ?_
  rintro e v7 ⟨rfl, hbx⟩
  have HA7 : Hid (StAt v7 w.heap.size ⟨1, 2, 3⟩) := HA6.out.later hbx HA6.out.lt
  have HX7 : Hid (StAt v7 g2 ⟨1, 2, 3⟩) := HX6.out.later hbx HX6.out.lt
  have HB7 : Hid (Below w.heap.size w v7) := HB6.out.trans (hbx.mono HB6.out.size)
  refine hK.out _ _ ⟨HA7.out.cells.1, HA7.out.cells.2.1, HA7.out.cells.2.2, HX7.out.cells.1, HX7.out.cells.2.1, HX7.out.cells.2.2⟩ (fun hS => ?_)
  clear hK K hbx
  refine wpAnyH_take (i := 5) (v := ?_) rfl (by kernel_rfl) (by kernel_rfl) (by kernel_rfl) (fun _ _ _ h => h) (Or.inl ⟨by rfl, ?_⟩) hS ?_
  rotate_left 1
  · intro w hSw; (try dsimp only at hSw); go_simp <;> with_reducible rfl
  simp only [List.getElem_toArray, List.getElem_cons_zero, List.getElem_cons_succ, Act.put, List.setIfInBounds_toArray, List.set_cons_zero, List.set_cons_succ]
  refine wpAnyH_take (i := 6) (v := ?_) rfl (by kernel_rfl) (by kernel_rfl) (by kernel_rfl) (fun _ _ _ h => h) (Or.inl ⟨by rfl, ?_⟩) hS ?_
  rotate_left 1
  · intro w hSw; (try dsimp only at hSw); go_simp <;> with_reducible rfl
  simp only [List.getElem_toArray, List.getElem_cons_zero, List.getElem_cons_succ, Act.put, List.setIfInBounds_toArray, List.set_cons_zero, List.set_cons_succ]
  refine wpAnyH_take (i := 7) (v := ?_) rfl (by kernel_rfl) (by kernel_rfl) (by kernel_rfl) (fun _ _ _ h => h) (Or.inl ⟨by rfl, ?_⟩) hS ?_
  rotate_left 1
  · intro w hSw; (try dsimp only at hSw); go_simp <;> with_reducible rfl
  simp only [List.getElem_toArray, List.getElem_cons_zero, List.getElem_cons_succ, Act.put, List.setIfInBounds_toArray, List.set_cons_zero, List.set_cons_succ]
  refine wpAnyH_take (i := 8) (v := ?_) rfl (by kernel_rfl) (by kernel_rfl) (by kernel_rfl) (fun _ _ _ h => h) (Or.inl ⟨by rfl, ?_⟩) hS ?_
  rotate_left 1
  · intro w hSw; (try dsimp only at hSw); go_simp <;> with_reducible rfl
  simp only [List.getElem_toArray, List.getElem_cons_zero, List.getElem_cons_succ, Act.put, List.setIfInBounds_toArray, List.set_cons_zero, List.set_cons_succ]
  refine wpAnyH_take (i := 9) (v := ?_) rfl (by kernel_rfl) (by kernel_rfl) (by kernel_rfl) (fun _ _ _ h => h) (Or.inl ⟨by rfl, ?_⟩) hS ?_
  rotate_left 1
  · intro w hSw; (try dsimp only at hSw); go_simp <;> with_reducible rfl
  simp only [List.getElem_toArray, List.getElem_cons_zero, List.getElem_cons_succ, Act.put, List.setIfInBounds_toArray, List.set_cons_zero, List.set_cons_succ]
  refine wpAnyH_ready (rs := [10]) (by kernel_rfl) (by simp) ?_
  refine AllReadyH.cons rfl (fun K hK => ?_) AllReadyH.nil
  go_simp
  refine Calls.mono (HL1.out _) ?_
  rintro e v8 ⟨rfl, hbx⟩
  have HA8 : Hid (StAt v8 w.heap.size ⟨1, 2, 3⟩) := HA7.out.later hbx HA7.out.lt
  have HX8 : Hid (StAt v8 g2 ⟨1, 2, 3⟩) := HX7.out.later hbx HX7.out.lt
  have HB8 : Hid (Below w.heap.size w v8) := HB7.out.trans (hbx.mono HB7.out.size)
  refine hK.out _ _ ⟨HA8.out.cells.1, HA8.out.cells.2.1, HA8.out.cells.2.2, HX8.out.cells.1, HX8.out.cells.2.1, HX8.out.cells.2.2⟩ (fun hS => ?_)
  clear hK K hbx
  refine wpAnyH_take (i := 11) (v := ?_) rfl (by kernel_rfl) (by kernel_rfl) (by kernel_rfl) (fun _ _ _ h => h) (Or.inl ⟨by rfl, ?_⟩) hS ?_
  rotate_left 1
  · intro w hSw; (try dsimp only at hSw); go_simp <;> with_reducible rfl
  simp only [List.getElem_toArray, List.getElem_cons_zero, List.getElem_cons_succ, Act.put, List.setIfInBounds_toArray, List.set_cons_zero, List.set_cons_succ]
  refine wpAnyH_take (i := 12) (v := ?_) rfl (by kernel_rfl) (by kernel_rfl) (by kernel_rfl) (fun _ _ _ h => h) (Or.inl ⟨by rfl, ?_⟩) hS ?_
  rotate_left 1
  · intro w hSw; (try dsimp only at hSw); go_simp <;> with_reducible rfl
  simp only [List.getElem_toArray, List.getElem_cons_zero, List.getElem_cons_succ, Act.put, List.setIfInBounds_toArray, List.set_cons_zero, List.set_cons_succ]
  refine wpAnyH_take (i := 13) (v := ?_) rfl (by kernel_rfl) (by kernel_rfl) (by kernel_rfl) (fun _ _ _ h => h) (Or.inl ⟨by rfl, ?_⟩) hS ?_
  rotate_left 1
  · intro w hSw; (try dsimp only at hSw); go_simp <;> with_reducible rfl
  simp only [List.getElem_toArray, List.getElem_cons_zero, List.getElem_cons_succ, Act.put, List.setIfInBounds_toArray, List.set_cons_zero, List.set_cons_succ]
  refine wpAnyH_take (i := 14) (v := ?_) rfl (by kernel_rfl) (by kernel_rfl) (by kernel_rfl) (fun _ _ _ h => h) (Or.inl ⟨by rfl, ?_⟩) hS ?_
  rotate_left 1
  · intro w hSw; (try dsimp only at hSw); go_simp <;> with_reducible rfl
  simp only [List.getElem_toArray, List.getElem_cons_zero, List.getElem_cons_succ, Act.put, List.setIfInBounds_toArray, List.set_cons_zero, List.set_cons_succ]
  refine wpAnyH_ready (rs := [15]) (by kernel_rfl) (by simp) ?_
  refine AllReadyH.cons rfl (fun K hK => ?_) AllReadyH.nil
  go_simp
  refine Calls.mono (HL2.out _) ?_
  rintro e v9 ⟨rfl, hbx⟩
  have HA9 : Hid (StAt v9 w.heap.size ⟨1, 2, 3⟩) := HA8.out.later hbx HA8.out.lt
  have HX9 : Hid (StAt v9 g2 ⟨1, 2, 3⟩) := HX8.out.later hbx HX8.out.lt
  have HB9 : Hid (Below w.heap.size w v9) := HB8.out.trans (hbx.mono HB8.out.size)
  refine hK.out _ _ ⟨HA9.out.cells.1, HA9.out.cells.2.1, HA9.out.cells.2.2, HX9.out.cells.1, HX9.out.cells.2.1, HX9.out.cells.2.2⟩ (fun hS => ?_)
  clear hK K hbx
  refine wpAnyH_take (i := 16) (v := ?_) rfl (by kernel_rfl) (by kernel_rfl) (by kernel_rfl) (fun _ _ _ h => h) (Or.inl ⟨by rfl, ?_⟩) hS ?_
  rotate_left 1
  · intro w hSw; (try dsimp only at hSw); go_simp <;> with_reducible rfl
  simp only [List.getElem_toArray, List.getElem_cons_zero, List.getElem_cons_succ, Act.put, List.setIfInBounds_toArray, List.set_cons_zero, List.set_cons_succ]
  refine wpAnyH_take (i := 17) (v := ?_) rfl (by kernel_rfl) (by kernel_rfl) (by kernel_rfl) (fun _ _ _ h => h) (Or.inl ⟨by rfl, ?_⟩) hS ?_
  rotate_left 1
  · intro w hSw; (try dsimp only at hSw); go_simp <;> with_reducible rfl
  simp only [List.getElem_toArray, List.getElem_cons_zero, List.getElem_cons_succ, Act.put, List.setIfInBounds_toArray, List.set_cons_zero, List.set_cons_succ]
  refine wpAnyH_take (i := 18) (v := ?_) rfl (by kernel_rfl) (by kernel_rfl) (by kernel_rfl) (fun _ _ _ h => h) (Or.inl ⟨by rfl, ?_⟩) hS ?_
  rotate_left 1
  · intro w hSw; (try dsimp only at hSw); go_simp <;> with_reducible rfl
  simp only [List.getElem_toArray, List.getElem_cons_zero, List.getElem_cons_succ, Act.put, List.setIfInBounds_toArray, List.set_cons_zero, List.set_cons_succ]
  refine wpAnyH_take (i := 19) (v := ?_) rfl (by kernel_rfl) (by kernel_rfl) (by kernel_rfl) (fun _ _ _ h => h) (Or.inl ⟨by rfl, ?_⟩) hS ?_
  rotate_left 1
  · intro w hSw; (try dsimp only at hSw); go_simp <;> with_reducible rfl
  simp only [List.getElem_toArray, List.getElem_cons_zero, List.getElem_cons_succ, Act.put, List.setIfInBounds_toArray, List.set_cons_zero, List.set_cons_succ]
  refine wpAnyH_ready (rs := [20]) (by kernel_rfl) (by simp) ?_
  refine AllReadyH.cons rfl (fun K hK => ?_) AllReadyH.nil
  go_simp
  refine Calls.mono (HBy.out _) ?_
  rintro e v10 ⟨v20, rfl, hby, hbx⟩
  have HA10 : Hid (StAt v10 w.heap.size ⟨1, 2, 3⟩) := HA9.out.later hbx HA9.out.lt
  have HX10 : Hid (StAt v10 g2 ⟨1, 2, 3⟩) := HX9.out.later hbx HX9.out.lt
  have HB10 : Hid (Below w.heap.size w v10) := HB9.out.trans (hbx.mono HB9.out.size)
  have hstr := bytes_string hby
  rw [str123] at hstr
  clear hby
  refine hK.out _ _ ⟨HA10.out.cells.1, HA10.out.cells.2.1, HA10.out.cells.2.2, HX10.out.cells.1, HX10.out.cells.2.1, HX10.out.cells.2.2⟩ (fun hS => ?_)
  clear hK K hbx
  refine wpAnyH_ready (rs := [21]) (by kernel_rfl) (by simp) ?_
  refine AllReadyH.cons rfl (fun K hK => ?_) AllReadyH.nil
  go_simp
  refine hK.out _ _ hS (fun hS => ?_)
  clear hK K hstr
  refine wpAnyH_take (i := 22) (v := ?_) rfl (by kernel_rfl) (by kernel_rfl) (by kernel_rfl) (fun _ _ _ h => h) (Or.inl ⟨by rfl, ?_⟩) hS ?_
  rotate_left 1
  · intro w hSw; (try dsimp only at hSw); go_simp <;> with_reducible rfl
  simp only [List.getElem_toArray, List.getElem_cons_zero, List.getElem_cons_succ, Act.put, List.setIfInBounds_toArray, List.set_cons_zero, List.set_cons_succ]
  refine wpAnyH_take (i := 23) (v := ?_) rfl (by kernel_rfl) (by kernel_rfl) (by kernel_rfl) (fun _ _ _ h => h) (Or.inl ⟨by rfl, ?_⟩) hS ?_
  rotate_left 1
  · intro w hSw; (try dsimp only at hSw); go_simp <;> with_reducible rfl
  simp only [List.getElem_toArray, List.getElem_cons_zero, List.getElem_cons_succ, Act.put, List.setIfInBounds_toArray, List.set_cons_zero, List.set_cons_succ]
  refine wpAnyH_take (i := 24) (v := ?_) rfl (by kernel_rfl) (by kernel_rfl) (by kernel_rfl) (fun _ _ _ h => h) (Or.inl ⟨by rfl, ?_⟩) hS ?_
  rotate_left 1
  · intro w hSw; (try dsimp only at hSw); go_simp <;> with_reducible rfl
  simp only [List.getElem_toArray, List.getElem_cons_zero, List.getElem_cons_succ, Act.put, List.setIfInBounds_toArray, List.set_cons_zero, List.set_cons_succ]
  refine wpAnyH_take (i := 25) (v := ?_) rfl (by kernel_rfl) (by kernel_rfl) (by kernel_rfl) (fun _ _ _ h => h) (Or.inl ⟨by rfl, ?_⟩) hS ?_
  rotate_left 1
  · intro w hSw; (try dsimp only at hSw); go_simp <;> with_reducible rfl
  simp only [List.getElem_toArray, List.getElem_cons_zero, List.getElem_cons_succ, Act.put, List.setIfInBounds_toArray, List.set_cons_zero, List.set_cons_succ]
  refine wpAnyH_take (i := 26) (v := ?_) rfl (by kernel_rfl) (by kernel_rfl) (by kernel_rfl) (fun _ _ _ h => h) (Or.inl ⟨by rfl, ?_⟩) hS ?_
  rotate_left 1
  · intro w hSw; (try dsimp only at hSw); go_simp <;> with_reducible rfl
  simp only [List.getElem_toArray, List.getElem_cons_zero, List.getElem_cons_succ, Act.put, List.setIfInBounds_toArray, List.set_cons_zero, List.set_cons_succ]
  refine wpAnyH_take (i := 27) (v := ?_) rfl (by kernel_rfl) (by kernel_rfl) (by kernel_rfl) (fun _ _ _ h => h) (Or.inl ⟨by rfl, ?_⟩) hS ?_
  rotate_left 1
  · intro w hSw; (try dsimp only at hSw); go_simp <;> with_reducible rfl
  simp only [List.getElem_toArray, List.getElem_cons_zero, List.getElem_cons_succ, Act.put, List.setIfInBounds_toArray, List.set_cons_zero, List.set_cons_succ]
  refine wpAnyH_take (i := 28) (v := ?_) rfl (by kernel_rfl) (by kernel_rfl) (by kernel_rfl) (fun _ _ _ h => h) (Or.inl ⟨by rfl, ?_⟩) hS ?_
  rotate_left 1
  · intro w hSw; (try dsimp only at hSw); go_simp <;> with_reducible rfl
  simp only [List.getElem_toArray, List.getElem_cons_zero, List.getElem_cons_succ, Act.put, List.setIfInBounds_toArray, List.set_cons_zero, List.set_cons_succ]
  refine wpAnyH_take (i := 29) (v := ?_) rfl (by kernel_rfl) (by kernel_rfl) (by kernel_rfl) (fun _ _ _ h => h) (Or.inl ⟨by rfl, ?_⟩) hS ?_
  rotate_left 1
  · intro w hSw; (try dsimp only at hSw); go_simp <;> with_reducible rfl
  simp only [List.getElem_toArray, List.getElem_cons_zero, List.getElem_cons_succ, Act.put, List.setIfInBounds_toArray, List.set_cons_zero, List.set_cons_succ]
  refine wpAnyH_take (i := 30) (v := ?_) rfl (by kernel_rfl) (by kernel_rfl) (by kernel_rfl) (fun _ _ _ h => h) (Or.inl ⟨by rfl, ?_⟩) hS ?_
  rotate_left 1
  · intro w hSw; (try dsimp only at hSw); go_simp <;> with_reducible rfl
  simp only [List.getElem_toArray, List.getElem_cons_zero, List.getElem_cons_succ, Act.put, List.setIfInBounds_toArray, List.set_cons_zero, List.set_cons_succ]
  refine wpAnyH_take (i := 31) (v := ?_) rfl (by kernel_rfl) (by kernel_rfl) (by kernel_rfl) (fun _ _ _ h => h) (Or.inl ⟨by rfl, ?_⟩) hS ?_
  rotate_left 1
  · intro w hSw; (try dsimp only at hSw); go_simp <;> with_reducible rfl
  simp only [List.getElem_toArray, List.getElem_cons_zero, List.getElem_cons_succ, Act.put, List.setIfInBounds_toArray, List.set_cons_zero, List.set_cons_succ]
  refine wpAnyH_take (i := 32) (v := ?_) rfl (by kernel_rfl) (by kernel_rfl) (by kernel_rfl) (fun _ _ _ h => h) (Or.inl ⟨by rfl, ?_⟩) hS ?_
  rotate_left 1
  · intro w hSw; (try dsimp only at hSw); go_simp <;> with_reducible rfl
  simp only [List.getElem_toArray, List.getElem_cons_zero, List.getElem_cons_succ, Act.put, List.setIfInBounds_toArray, List.set_cons_zero, List.set_cons_succ]
  refine wpAnyH_take (i := 33) (v := ?_) rfl (by kernel_rfl) (by kernel_rfl) (by kernel_rfl) (fun _ _ _ h => h) (Or.inl ⟨by rfl, ?_⟩) hS ?_
  rotate_left 1
  · intro w hSw; (try dsimp only at hSw); go_simp <;> with_reducible rfl
  simp only [List.getElem_toArray, List.getElem_cons_zero, List.getElem_cons_succ, Act.put, List.setIfInBounds_toArray, List.set_cons_zero, List.set_cons_succ]
  refine wpAnyH_take (i := 34) (v := ?_) rfl (by kernel_rfl) (by kernel_rfl) (by kernel_rfl) (fun _ _ _ h => h) (Or.inl ⟨by rfl, ?_⟩) hS ?_
  rotate_left 1
  · intro w hSw; (try dsimp only at hSw); go_simp <;> with_reducible rfl
  simp only [List.getElem_toArray, List.getElem_cons_zero, List.getElem_cons_succ, Act.put, List.setIfInBounds_toArray, List.set_cons_zero, List.set_cons_succ]
  refine wpAnyH_take (i := 35) (v := ?_) rfl (by kernel_rfl) (by kernel_rfl) (by kernel_rfl) (fun _ _ _ h => h) (Or.inl ⟨by rfl, ?_⟩) hS ?_
  rotate_left 1
  · intro w hSw; (try dsimp only at hSw); go_simp <;> with_reducible rfl
  simp only [List.getElem_toArray, List.getElem_cons_zero, List.getElem_cons_succ, Act.put, List.setIfInBounds_toArray, List.set_cons_zero, List.set_cons_succ]
  refine wpAnyH_take (i := 38) (v := ?_) rfl (by kernel_rfl) (by kernel_rfl) (by kernel_rfl) (fun _ _ _ h => h) (Or.inl ⟨by rfl, ?_⟩) hS ?_
  rotate_left 1
  · intro w hSw; (try dsimp only at hSw); go_simp <;> with_reducible rfl
  simp only [List.getElem_toArray, List.getElem_cons_zero, List.getElem_cons_succ, Act.put, List.setIfInBounds_toArray, List.set_cons_zero, List.set_cons_succ]
  refine wpAnyH_ready (rs := [36]) (by kernel_rfl) (by simp) ?_
  refine AllReadyH.cons rfl (fun K hK => ?_) AllReadyH.nil
  go_simp
  have HSR : Hid (SRow (v10.alloc (.cells #[.int .i64 0, .int .i64 0, .int .i64 0, .int .i64 1, .int .i64 2, .int .i64 3] 23)) (some ⟨v10.heap.size, 0, none⟩) [StMath.zero, ⟨1, 2, 3⟩]) := arr_srow (Arr.new v10 23 ([StMath.zero, ⟨1, 2, 3⟩].flatMap stL) rfl)
  have HA11 : Hid (StAt (v10.alloc (.cells #[.int .i64 0, .int .i64 0, .int .i64 0, .int .i64 1, .int .i64 2, .int .i64 3] 23)) w.heap.size ⟨1, 2, 3⟩) := HA10.out.alloc _
  have HX11 : Hid (StAt (v10.alloc (.cells #[.int .i64 0, .int .i64 0, .int .i64 0, .int .i64 1, .int .i64 2, .int .i64 3] 23)) g2 ⟨1, 2, 3⟩) := HX10.out.alloc _
  have HB11 : Hid (Below w.heap.size w (v10.alloc (.cells #[.int .i64 0, .int .i64 0, .int .i64 0, .int .i64 1, .int .i64 2, .int .i64 3] 23))) := HB10.out.alloc HB10.out.size _
  refine hK.out _ _ ⟨HA11.out.cells.1, HA11.out.cells.2.1, HA11.out.cells.2.2, HX11.out.cells.1, HX11.out.cells.2.1, HX11.out.cells.2.2⟩ (fun hS => ?_)
  clear hK K
  generalize v10.alloc (.cells #[.int .i64 0, .int .i64 0, .int .i64 0, .int .i64 1, .int .i64 2, .int .i64 3] 23) = v11 at *
  refine wpAnyH_ready (rs := [37]) (by kernel_rfl) (by simp) ?_
  refine AllReadyH.cons rfl (fun K hK => ?_) AllReadyH.nil
  go_simp
  refine Calls.mono (HMx.out _ _ HSR.out) ?_
  rintro e v12 ⟨rfl, hbx⟩
  have HA12 : Hid (StAt v12 w.heap.size ⟨1, 2, 3⟩) := HA11.out.later hbx HA11.out.lt
  have HX12 : Hid (StAt v12 g2 ⟨1, 2, 3⟩) := HX11.out.later hbx HX11.out.lt
  have HB12 : Hid (Below w.heap.size w v12) := HB11.out.trans (hbx.mono HB11.out.size)
  refine hK.out _ _ ⟨HA12.out.cells.1, HA12.out.cells.2.1, HA12.out.cells.2.2, HX12.out.cells.1, HX12.out.cells.2.1, HX12.out.cells.2.2⟩ (fun hS => ?_)
  clear hK K hbx
  refine wpAnyH_take (i := 39) (v := ?_) rfl (by kernel_rfl) (by kernel_rfl) (by kernel_rfl) (fun _ _ _ h => h) (Or.inl ⟨by rfl, ?_⟩) hS ?_
  rotate_left 1
  · intro w hSw; (try dsimp only at hSw); go_simp <;> with_reducible rfl
  simp only [List.getElem_toArray, List.getElem_cons_zero, List.getElem_cons_succ, Act.put, List.setIfInBounds_toArray, List.set_cons_zero, List.set_cons_succ]
  refine wpAnyH_take (i := 40) (v := ?_) rfl (by kernel_rfl) (by kernel_rfl) (by kernel_rfl) (fun _ _ _ h => h) (Or.inl ⟨by rfl, ?_⟩) hS ?_
  rotate_left 1
  · intro w hSw; (try dsimp only at hSw); go_simp <;> with_reducible rfl
  simp only [List.getElem_toArray, List.getElem_cons_zero, List.getElem_cons_succ, Act.put, List.setIfInBounds_toArray, List.set_cons_zero, List.set_cons_succ]
  refine wpAnyH_take (i := 41) (v := ?_) rfl (by kernel_rfl) (by kernel_rfl) (by kernel_rfl) (fun _ _ _ h => h) (Or.inl ⟨by rfl, ?_⟩) hS ?_
  rotate_left 1
  · intro w hSw; (try dsimp only at hSw); go_simp <;> with_reducible rfl
  simp only [List.getElem_toArray, List.getElem_cons_zero, List.getElem_cons_succ, Act.put, List.setIfInBounds_toArray, List.set_cons_zero, List.set_cons_succ]
  refine wpAnyH_done (by kernel_rfl) ?_ _
  go_wp2
  go_ret
  exact ⟨rfl, HB12.out⟩
end Go.Proofs.Ytcgnkembfpcnnaa
