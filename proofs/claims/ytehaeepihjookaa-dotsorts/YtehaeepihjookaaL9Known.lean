/-
  Walk of newsreellaw9.known. And what the laws of layer 9 share.
-/
import Derived.Test.YtehaeepihjookaaDotFace
import Derived.Deep.Cut
namespace Go.Proofs.Ytehaeepihjookaa
open Go.RowKit NumMath
open DotMath (Dt)
set_option maxRecDepth 100000
set_option linter.unusedVariables false
set_option linter.unusedSimpArgs false

theorem bytes_later {w w' : World} {v : Value} {ys : List Int} (h : Bytes w v ys) (hb : Below w.heap.size w w') : Bytes w' v ys := by
  obtain ⟨a, c, hv, hr, r⟩ := h
  exact ⟨a, c, hv, hr.later hb, r⟩
theorem bytes_drew {w : World} {v : Value} {ys : List Int} (h : Bytes w v ys) : Bytes w.drew v ys := by
  obtain ⟨a, c, hv, hr, r⟩ := h
  exact ⟨a, c, hv, hr.drew, r⟩
theorem bytes_text {w : World} {v : Value} {ys : List Int} (h : Bytes w v ys) : (convert 34 9 v).run Try.prog w = .ok (.string (strOfNums ys)) w := by
  obtain ⟨a, c, rfl, hr, _⟩ := h
  exact row_string hr
theorem k_take : DotMath.take [3, 172, 2, 7] = (⟨3, 300⟩, 3, 0) := by kernel_rfl
theorem k_sort : DotMath.sort [⟨3, 300⟩, ⟨1, 9⟩, ⟨3, 300⟩] = [⟨1, 9⟩, ⟨3, 300⟩] := by kernel_rfl
theorem k_put : DotMath.put [⟨1, 9⟩, ⟨3, 300⟩] = [2, 1, 9, 3, 172, 2] := by kernel_rfl
theorem k_all : DotMath.all [2, 1, 9, 3, 172, 2] = ([⟨1, 9⟩, ⟨3, 300⟩], 6, 0) := by kernel_rfl
theorem k_bytes : DotMath.bytes ⟨3, 300⟩ = [3, 172, 2] := by kernel_rfl

set_option maxHeartbeats 8000000 in
theorem known_any (w : World) : Calls Try.prog 8 #[] w fun r w' => r = .returned (.bool true) ∧ Below w.heap.size w w' := by
  have HTk : Hid (∀ w : World, Calls Try.prog 20 #[.slice (some ⟨w.heap.size, 0, none⟩) 4 4] (w.alloc (.cells #[.int .u8 3, .int .u8 172, .int .u8 2, .int .u8 7] 5)) fun r w' => r = .returned (.tuple #[.agg #[.int .i64 3, .int .i64 300], .int .i64 3, .int .i64 0]) ∧ Below w.heap.size w w') := fun w => by
    have hb : Below w.heap.size w (w.alloc (.cells #[.int .u8 3, .int .u8 172, .int .u8 2, .int .u8 7] 5)) := (Below.refl _ _).alloc (Nat.le_refl _) _
    have := dotTake_any (some ⟨w.heap.size, 0, none⟩) [3, 172, 2, 7] 4 (w.alloc (.cells #[.int .u8 3, .int .u8 172, .int .u8 2, .int .u8 7] 5)) (lit_row w .u8 [3, 172, 2, 7] 5 _ rfl) (by decide) (by decide) (by decide)
    rw [k_take] at this
    refine this.mono ?_
    rintro r w' ⟨rfl, h⟩
    exact ⟨rfl, hb.trans (h.mono hb.size)⟩
  have HSo : Hid (∀ w : World, Calls Try.prog 13 #[.slice (some ⟨w.heap.size, 0, none⟩) 3 3] (w.alloc (.cells #[.int .i64 3, .int .i64 300, .int .i64 1, .int .i64 9, .int .i64 3, .int .i64 300] 23)) fun r w' => ∃ v, r = .returned v ∧ Dots w' v [⟨1, 9⟩, ⟨3, 300⟩] ∧ Below w.heap.size w w') := fun w => by
    have hb : Below w.heap.size w (w.alloc (.cells #[.int .i64 3, .int .i64 300, .int .i64 1, .int .i64 9, .int .i64 3, .int .i64 300] 23)) := (Below.refl _ _).alloc (Nat.le_refl _) _
    have := dotSort_any (some ⟨w.heap.size, 0, none⟩) [⟨3, 300⟩, ⟨1, 9⟩, ⟨3, 300⟩] 3 (w.alloc (.cells #[.int .i64 3, .int .i64 300, .int .i64 1, .int .i64 9, .int .i64 3, .int .i64 300] 23)) (lit_dots w [⟨3, 300⟩, ⟨1, 9⟩, ⟨3, 300⟩] rfl) (by simp) (by decide) (by simp) (by simp)
    rw [k_sort] at this
    refine this.mono ?_
    rintro r w' ⟨v, rfl, hd, h⟩
    exact ⟨v, rfl, hd, hb.trans (h.mono hb.size)⟩
  have HPu : Hid (∀ b o c w, DRow w (some ⟨b, o, none⟩) [⟨1, 9⟩, ⟨3, 300⟩] → 2 ≤ c → c ≤ maxLen → Calls Try.prog 22 #[.slice (some ⟨b, o, none⟩) 2 c] w fun r w' => ∃ v, r = .returned v ∧ Bytes w' v [2, 1, 9, 3, 172, 2] ∧ Below w.heap.size w w') := fun b o c w hr hc hm => by
    have := dotPut_any (some ⟨b, o, none⟩) [⟨1, 9⟩, ⟨3, 300⟩] c w hr hc hm (by simp)
    rw [k_put] at this
    exact this
  have HAl : Hid (∀ a c w, Row .u8 w a [2, 1, 9, 3, 172, 2] → 6 ≤ c → c ≤ maxLen → Calls Try.prog 24 #[.slice a 6 c] w fun r w' => ∃ v, r = .returned (.tuple #[v, .int .i64 6, .int .i64 0]) ∧ Dots w' v [⟨1, 9⟩, ⟨3, 300⟩] ∧ Below w.heap.size w w') := fun a c w hr hc hm => by
    have := dotTakeAll_any a [2, 1, 9, 3, 172, 2] c w hr (by decide) hc hm
    rw [k_all] at this
    exact this
  have HRi : Hid (∀ w, Calls Try.prog 9 #[.agg #[.int .i64 3, .int .i64 300]] w fun r w' => r = .returned (.bool true) ∧ Below w.heap.size w w') := fun w => dotRight_any ⟨3, 300⟩ w
  have HRz : Hid (∀ w, Calls Try.prog 9 #[.agg #[.int .i64 0, .int .i64 0]] w fun r w' => r = .returned (.bool false) ∧ Below w.heap.size w w') := fun w => dotRight_any ⟨0, 0⟩ w
  have HLe : Hid (∀ w, Calls Try.prog 11 #[.agg #[.int .i64 1, .int .i64 9], .agg #[.int .i64 3, .int .i64 300]] w fun r w' => r = .returned (.bool true) ∧ Below w.heap.size w w') := fun w => dotLess_any ⟨1, 9⟩ ⟨3, 300⟩ w
  have HBy : Hid (∀ w, Calls Try.prog 16 #[.agg #[.int .i64 3, .int .i64 300]] w fun r w' => ∃ v, r = .returned v ∧ Bytes w' v [3, 172, 2] ∧ Below w.heap.size w w') := fun w => by
    have := dotBytes_any ⟨3, 300⟩ w
    rw [k_bytes] at this
    exact this
  have HL0 : Hid (Below w.heap.size w w) := Below.refl _ _
  go_enter Try.func8, Try.ntmps8
  go_upto_region 1 with (fail)
  have HX0 : Hid (DtAt (w.alloc (.cells #[.int .i64 0, .int .i64 0] 23)) w.heap.size DotMath.zero) := DtAt.new w DotMath.zero rfl
  have HXX : Hid (DtAt ((w.alloc (.cells #[.int .i64 0, .int .i64 0] 23)).setRow w.heap.size (dtL ⟨3, 300⟩).toArray) w.heap.size ⟨3, 300⟩) := DtAt.row HX0.out
  have HL1 : Hid (Below w.heap.size w ((w.alloc (.cells #[.int .i64 0, .int .i64 0] 23)).setRow w.heap.size (dtL ⟨3, 300⟩).toArray)) := below_setRow ((Below.refl _ _).alloc (Nat.le_refl _) _) (Nat.le_refl _) _
  go_upto_region 2 with (refine wpList_store_dt rfl (.tmp 1) (.tmp 9) rfl w.heap.size DotMath.zero ⟨3, 300⟩ rfl rfl HX0.out ?_)
  clear HX0 HL0
  generalize (w.alloc (.cells #[.int .i64 0, .int .i64 0] 23)).setRow w.heap.size (dtL ⟨3, 300⟩).toArray = w1 at *
  generalize hg1 : w.heap.size = g1 at HXX ⊢
  go_wp2_with fail
  refine Calls.mono (HTk.out _) ?_
  rintro r w21 ⟨rfl, hb21⟩
  have HX22 : Hid (DtAt w21 g1 ⟨3, 300⟩) := HXX.out.later hb21 HXX.out.lt
  have HB23 : Hid (Below w.heap.size w w21) := HL1.out.trans (hb21.mono HL1.out.size)
  clear HXX HL1 hb21
  have HX24 : Hid (DtAt (w21.alloc (.cells #[.int .i64 0, .int .i64 0] 23)) w21.heap.size DotMath.zero) := DtAt.new w21 DotMath.zero rfl
  have hl25 : Below w21.heap.size w21 ((w21.alloc (.cells #[.int .i64 0, .int .i64 0] 23)).setRow w21.heap.size (dtL ⟨3, 300⟩).toArray) := below_setRow ((Below.refl _ _).alloc (Nat.le_refl _) _) (Nat.le_refl _) _
  have HX26 : Hid (DtAt ((w21.alloc (.cells #[.int .i64 0, .int .i64 0] 23)).setRow w21.heap.size (dtL ⟨3, 300⟩).toArray) g1 ⟨3, 300⟩) := HX22.out.later hl25 HX22.out.lt
  have HB27 : Hid (Below w.heap.size w ((w21.alloc (.cells #[.int .i64 0, .int .i64 0] 23)).setRow w21.heap.size (dtL ⟨3, 300⟩).toArray)) := HB23.out.trans (hl25.mono HB23.out.size)
  have HY28 : Hid (DtAt ((w21.alloc (.cells #[.int .i64 0, .int .i64 0] 23)).setRow w21.heap.size (dtL ⟨3, 300⟩).toArray) w21.heap.size ⟨3, 300⟩) := DtAt.row HX24.out
  go_upto_region 3 with (first | refine wpList_store_dt rfl (.tmp 2) (.tmp 13) rfl w21.heap.size DotMath.zero ⟨3, 300⟩ rfl rfl HX24.out ?_)
  clear HX22 HB23 HX24 hl25
  generalize (w21.alloc (.cells #[.int .i64 0, .int .i64 0] 23)).setRow w21.heap.size (dtL ⟨3, 300⟩).toArray = w29 at *
  generalize w21.heap.size = g2 at *
  obtain ⟨X_0, X_1⟩ := HX26.out.cells
  go_wp2_with fail
  refine Calls.mono (HSo.out _) ?_
  rintro r w30 ⟨v, rfl, hd, hb30⟩
  have HX31 : Hid (DtAt w30 g1 ⟨3, 300⟩) := HX26.out.later hb30 HX26.out.lt
  have HY32 : Hid (DtAt w30 g2 ⟨3, 300⟩) := HY28.out.later hb30 HY28.out.lt
  have HB33 : Hid (Below w.heap.size w w30) := HB27.out.trans (hb30.mono HB27.out.size)
  clear HX26 HY28 HB27 hb30
  clear X_0 X_1
  obtain ⟨ao, c, rfl, hrow, hc2, hcm, _⟩ := hd
  obtain ⟨b1, o1, rfl, _⟩ := DRow.at hrow (by simp)
  have HL34 : Hid (DRow w30 (some ⟨b1, o1, none⟩) [⟨1, 9⟩, ⟨3, 300⟩]) := hrow
  clear hrow
  simp only [List.length_cons, List.length_nil, Nat.zero_add, Nat.reduceAdd] at hc2 ⊢
  go_wp2_with fail
  refine Calls.mono (HPu.out b1 o1 c _ HL34.out hc2 hcm) ?_
  rintro r w35 ⟨v2, rfl, hby, hb35⟩
  have HX36 : Hid (DtAt w35 g1 ⟨3, 300⟩) := HX31.out.later hb35 HX31.out.lt
  have HY37 : Hid (DtAt w35 g2 ⟨3, 300⟩) := HY32.out.later hb35 HY32.out.lt
  have HL38 : Hid (DRow w35 (some ⟨b1, o1, none⟩) [⟨1, 9⟩, ⟨3, 300⟩]) := DRow.later HL34.out hb35
  have HB39 : Hid (Below w.heap.size w w35) := HB33.out.trans (hb35.mono HB33.out.size)
  clear HX31 HY32 HL34 HB33 hb35
  obtain ⟨a2, c2, rfl, hrow2, _, hcc2, hcm2, _⟩ := hby
  simp only [List.length_cons, List.length_nil, Nat.zero_add, Nat.reduceAdd] at hcc2 ⊢
  go_wp2_with fail
  refine Calls.mono (HAl.out a2 c2 _ hrow2 hcc2 hcm2) ?_
  rintro r w40 ⟨v3, rfl, hd3, hb40⟩
  have HX41 : Hid (DtAt w40 g1 ⟨3, 300⟩) := HX36.out.later hb40 HX36.out.lt
  have HY42 : Hid (DtAt w40 g2 ⟨3, 300⟩) := HY37.out.later hb40 HY37.out.lt
  have HL43 : Hid (DRow w40 (some ⟨b1, o1, none⟩) [⟨1, 9⟩, ⟨3, 300⟩]) := DRow.later HL38.out hb40
  have HB44 : Hid (Below w.heap.size w w40) := HB39.out.trans (hb40.mono HB39.out.size)
  clear HX36 HY37 HL38 HB39 hb40
  clear hrow2
  obtain ⟨ao3, c3, rfl, hrow3, hc3, hcm3, _⟩ := hd3
  obtain ⟨b3, o3, rfl, _⟩ := DRow.at hrow3 (by simp)
  have HM45 : Hid (DRow w40 (some ⟨b3, o3, none⟩) [⟨1, 9⟩, ⟨3, 300⟩]) := hrow3
  clear hrow3
  simp only [List.length_cons, List.length_nil, Nat.zero_add, Nat.reduceAdd] at hc3 ⊢
  go_upto_region 5 with (fail)
  clear HTk HSo HPu HAl
  have i1 : (1 : Int) < (c3 : Int) := by omega
  have i2 : (0 : Int) < (c : Int) := by omega
  have HX46 : Hid (DtAt w40.drew g1 ⟨3, 300⟩) := HX41.out.drew
  have HY47 : Hid (DtAt w40.drew g2 ⟨3, 300⟩) := HY42.out.drew
  have HL48 : Hid (DRow w40.drew (some ⟨b1, o1, none⟩) [⟨1, 9⟩, ⟨3, 300⟩]) := DRow.drew HL43.out
  have HM49 : Hid (DRow w40.drew (some ⟨b3, o3, none⟩) [⟨1, 9⟩, ⟨3, 300⟩]) := DRow.drew HM45.out
  have HB50 : Hid (Below w.heap.size w w40.drew) := HB44.out.drew
  clear HX41 HY42 HL43 HM45 HB44
  refine wp_region_held_drew (S := fun w' => w'.cell? ⟨g1, 0, none⟩ = some (.int .i64 3) ∧ w'.cell? ⟨g1, 1, none⟩ = some (.int .i64 300) ∧ w'.cell? ⟨g2, 0, none⟩ = some (.int .i64 3) ∧ w'.cell? ⟨g2, 1, none⟩ = some (.int .i64 300) ∧ w'.cell? ⟨b1, o1, none⟩ = some (.int .i64 1) ∧ w'.cell? ⟨b1, o1 + 1, none⟩ = some (.int .i64 9) ∧ w'.cell? ⟨b3, o3 + 2, none⟩ = some (.int .i64 3) ∧ w'.cell? ⟨b3, o3 + 2 + 1, none⟩ = some (.int .i64 300)) (by kernel_rfl) ⟨(HX46.out).cells.1, (HX46.out).cells.2, (HY47.out).cells.1, (HY47.out).cells.2, (DRow.cells HL48.out (i := 0) (by simp)).1, (DRow.cells HL48.out (i := 0) (by simp)).2, (DRow.cells HM49.out (i := 1) (by simp)).1, (DRow.cells HM49.out (i := 1) (by simp)).2⟩ (fun hS => ?_)
  generalize w40.drew = v0 at *
  refine wpAnyH_take (i := 0) (v := ?_) rfl (by kernel_rfl) (by kernel_rfl) (by kernel_rfl) (fun _ _ _ h => h) (Or.inl ⟨by rfl, ?_⟩) hS ?_
  rotate_left 1
  · intro w hSw; (try dsimp only at hSw); go_simp <;> with_reducible rfl
  simp only [List.getElem_toArray, List.getElem_cons_zero, List.getElem_cons_succ, Act.put, List.setIfInBounds_toArray, List.set_cons_zero, List.set_cons_succ]
  refine wpAnyH_ready (rs := [1]) (by kernel_rfl) (by simp) ?_
  refine AllReadyH.cons rfl (fun K hK => ?_) AllReadyH.nil
  go_simp
  refine Calls.mono (HRi.out _) ?_
  rintro r v1 ⟨rfl, hbx⟩
  have HX51 : Hid (DtAt v1 g1 ⟨3, 300⟩) := HX46.out.later hbx HX46.out.lt
  have HY52 : Hid (DtAt v1 g2 ⟨3, 300⟩) := HY47.out.later hbx HY47.out.lt
  have HL53 : Hid (DRow v1 (some ⟨b1, o1, none⟩) [⟨1, 9⟩, ⟨3, 300⟩]) := DRow.later HL48.out hbx
  have HM54 : Hid (DRow v1 (some ⟨b3, o3, none⟩) [⟨1, 9⟩, ⟨3, 300⟩]) := DRow.later HM49.out hbx
  have HB55 : Hid (Below w.heap.size w v1) := HB50.out.trans (hbx.mono HB50.out.size)
  clear HX46 HY47 HL48 HM49 HB50 hbx
  refine hK.out _ _ ⟨(HX51.out).cells.1, (HX51.out).cells.2, (HY52.out).cells.1, (HY52.out).cells.2, (DRow.cells HL53.out (i := 0) (by simp)).1, (DRow.cells HL53.out (i := 0) (by simp)).2, (DRow.cells HM54.out (i := 1) (by simp)).1, (DRow.cells HM54.out (i := 1) (by simp)).2⟩ (fun hS => ?_)
  clear hK K
  refine wpAnyH_take (i := 2) (v := ?_) rfl (by kernel_rfl) (by kernel_rfl) (by kernel_rfl) (fun _ _ _ h => h) (Or.inl ⟨by rfl, ?_⟩) hS ?_
  rotate_left 1
  · intro w hSw; (try dsimp only at hSw); go_simp <;> with_reducible rfl
  simp only [List.getElem_toArray, List.getElem_cons_zero, List.getElem_cons_succ, Act.put, List.setIfInBounds_toArray, List.set_cons_zero, List.set_cons_succ]
  refine wpAnyH_take (i := 3) (v := ?_) rfl (by kernel_rfl) (by kernel_rfl) (by kernel_rfl) (fun _ _ _ h => h) (Or.inl ⟨by rfl, ?_⟩) hS ?_
  rotate_left 1
  · intro w hSw; (try dsimp only at hSw); go_simp <;> with_reducible rfl
  simp only [List.getElem_toArray, List.getElem_cons_zero, List.getElem_cons_succ, Act.put, List.setIfInBounds_toArray, List.set_cons_zero, List.set_cons_succ]
  refine wpAnyH_ready (rs := [4]) (by kernel_rfl) (by simp) ?_
  refine AllReadyH.cons rfl (fun K hK => ?_) AllReadyH.nil
  go_simp
  refine Calls.mono (HRz.out _) ?_
  rintro r v2 ⟨rfl, hbx⟩
  have HX56 : Hid (DtAt v2 g1 ⟨3, 300⟩) := HX51.out.later hbx HX51.out.lt
  have HY57 : Hid (DtAt v2 g2 ⟨3, 300⟩) := HY52.out.later hbx HY52.out.lt
  have HL58 : Hid (DRow v2 (some ⟨b1, o1, none⟩) [⟨1, 9⟩, ⟨3, 300⟩]) := DRow.later HL53.out hbx
  have HM59 : Hid (DRow v2 (some ⟨b3, o3, none⟩) [⟨1, 9⟩, ⟨3, 300⟩]) := DRow.later HM54.out hbx
  have HB60 : Hid (Below w.heap.size w v2) := HB55.out.trans (hbx.mono HB55.out.size)
  clear HX51 HY52 HL53 HM54 HB55 hbx
  refine hK.out _ _ ⟨(HX56.out).cells.1, (HX56.out).cells.2, (HY57.out).cells.1, (HY57.out).cells.2, (DRow.cells HL58.out (i := 0) (by simp)).1, (DRow.cells HL58.out (i := 0) (by simp)).2, (DRow.cells HM59.out (i := 1) (by simp)).1, (DRow.cells HM59.out (i := 1) (by simp)).2⟩ (fun hS => ?_)
  clear hK K
  refine wpAnyH_take (i := 5) (v := ?_) rfl (by kernel_rfl) (by kernel_rfl) (by kernel_rfl) (fun _ _ _ h => h) (Or.inl ⟨by rfl, ?_⟩) hS ?_
  rotate_left 1
  · intro w hSw; (try dsimp only at hSw); go_simp <;> with_reducible rfl
  simp only [List.getElem_toArray, List.getElem_cons_zero, List.getElem_cons_succ, Act.put, List.setIfInBounds_toArray, List.set_cons_zero, List.set_cons_succ]
  refine wpAnyH_take (i := 6) (v := ?_) rfl (by kernel_rfl) (by kernel_rfl) (by kernel_rfl) (fun _ _ _ h => h) (Or.inl ⟨by rfl, ?_⟩) hS ?_
  rotate_left 1
  · intro w hSw; (try dsimp only at hSw); go_simp <;> with_reducible rfl
  simp only [List.getElem_toArray, List.getElem_cons_zero, List.getElem_cons_succ, Act.put, List.setIfInBounds_toArray, List.set_cons_zero, List.set_cons_succ]
  refine wpAnyH_take (i := 7) (v := ?_) rfl (by kernel_rfl) (by kernel_rfl) (by kernel_rfl) (fun _ _ _ h => h) (Or.inl ⟨by rfl, ?_⟩) hS ?_
  rotate_left 1
  · intro w hSw; (try dsimp only at hSw); go_simp <;> with_reducible rfl
  simp only [List.getElem_toArray, List.getElem_cons_zero, List.getElem_cons_succ, Act.put, List.setIfInBounds_toArray, List.set_cons_zero, List.set_cons_succ]
  refine wpAnyH_take (i := 8) (v := ?_) rfl (by kernel_rfl) (by kernel_rfl) (by kernel_rfl) (fun _ _ _ h => h) (Or.inl ⟨by rfl, ?_⟩) hS ?_
  rotate_left 1
  · intro w hSw; (try dsimp only at hSw); go_simp <;> with_reducible rfl
  simp only [List.getElem_toArray, List.getElem_cons_zero, List.getElem_cons_succ, Act.put, List.setIfInBounds_toArray, List.set_cons_zero, List.set_cons_succ]
  refine wpAnyH_take (i := 9) (v := ?_) rfl (by kernel_rfl) (by kernel_rfl) (by kernel_rfl) (fun _ _ _ h => h) (Or.inl ⟨by rfl, ?_⟩) hS ?_
  rotate_left 1
  · intro w hSw; (try dsimp only at hSw); go_simp <;> with_reducible rfl
  simp only [List.getElem_toArray, List.getElem_cons_zero, List.getElem_cons_succ, Act.put, List.setIfInBounds_toArray, List.set_cons_zero, List.set_cons_succ]
  refine wpAnyH_take (i := 10) (v := ?_) rfl (by kernel_rfl) (by kernel_rfl) (by kernel_rfl) (fun _ _ _ h => h) (Or.inl ⟨by rfl, ?_⟩) hS ?_
  rotate_left 1
  · intro w hSw; (try dsimp only at hSw); go_simp <;> with_reducible rfl
  simp only [List.getElem_toArray, List.getElem_cons_zero, List.getElem_cons_succ, Act.put, List.setIfInBounds_toArray, List.set_cons_zero, List.set_cons_succ]
  refine wpAnyH_take (i := 11) (v := ?_) rfl (by kernel_rfl) (by kernel_rfl) (by kernel_rfl) (fun _ _ _ h => h) (Or.inl ⟨by rfl, ?_⟩) hS ?_
  rotate_left 1
  · intro w hSw; (try dsimp only at hSw); go_simp <;> with_reducible rfl
  simp only [List.getElem_toArray, List.getElem_cons_zero, List.getElem_cons_succ, Act.put, List.setIfInBounds_toArray, List.set_cons_zero, List.set_cons_succ]
  refine wpAnyH_take (i := 12) (v := ?_) rfl (by kernel_rfl) (by kernel_rfl) (by kernel_rfl) (fun _ _ _ h => h) (Or.inl ⟨by rfl, ?_⟩) hS ?_
  rotate_left 1
  · intro w hSw; (try dsimp only at hSw); go_simp <;> with_reducible rfl
  simp only [List.getElem_toArray, List.getElem_cons_zero, List.getElem_cons_succ, Act.put, List.setIfInBounds_toArray, List.set_cons_zero, List.set_cons_succ]
  refine wpAnyH_take (i := 13) (v := ?_) rfl (by kernel_rfl) (by kernel_rfl) (by kernel_rfl) (fun _ _ _ h => h) (Or.inl ⟨by rfl, ?_⟩) hS ?_
  rotate_left 1
  · intro w hSw; (try dsimp only at hSw); go_simp <;> with_reducible rfl
  simp only [List.getElem_toArray, List.getElem_cons_zero, List.getElem_cons_succ, Act.put, List.setIfInBounds_toArray, List.set_cons_zero, List.set_cons_succ]
  refine wpAnyH_take (i := 14) (v := ?_) rfl (by kernel_rfl) (by kernel_rfl) (by kernel_rfl) (fun _ _ _ h => h) (Or.inl ⟨by rfl, ?_⟩) hS ?_
  rotate_left 1
  · intro w hSw; (try dsimp only at hSw); go_simp <;> with_reducible rfl
  simp only [List.getElem_toArray, List.getElem_cons_zero, List.getElem_cons_succ, Act.put, List.setIfInBounds_toArray, List.set_cons_zero, List.set_cons_succ]
  refine wpAnyH_take (i := 15) (v := ?_) rfl (by kernel_rfl) (by kernel_rfl) (by kernel_rfl) (fun _ _ _ h => h) (Or.inl ⟨by rfl, ?_⟩) hS ?_
  rotate_left 1
  · intro w hSw; (try dsimp only at hSw); go_simp <;> with_reducible rfl
  simp only [List.getElem_toArray, List.getElem_cons_zero, List.getElem_cons_succ, Act.put, List.setIfInBounds_toArray, List.set_cons_zero, List.set_cons_succ]
  refine wpAnyH_take (i := 16) (v := ?_) rfl (by kernel_rfl) (by kernel_rfl) (by kernel_rfl) (fun _ _ _ h => h) (Or.inl ⟨by rfl, ?_⟩) hS ?_
  rotate_left 1
  · intro w hSw; (try dsimp only at hSw); go_simp <;> with_reducible rfl
  simp only [List.getElem_toArray, List.getElem_cons_zero, List.getElem_cons_succ, Act.put, List.setIfInBounds_toArray, List.set_cons_zero, List.set_cons_succ]
  refine wpAnyH_ready (rs := [17]) (by kernel_rfl) (by simp) ?_
  refine AllReadyH.cons rfl (fun K hK => ?_) AllReadyH.nil
  go_simp
  refine Calls.mono (HLe.out _) ?_
  rintro r v3 ⟨rfl, hbx⟩
  have HX61 : Hid (DtAt v3 g1 ⟨3, 300⟩) := HX56.out.later hbx HX56.out.lt
  have HY62 : Hid (DtAt v3 g2 ⟨3, 300⟩) := HY57.out.later hbx HY57.out.lt
  have HL63 : Hid (DRow v3 (some ⟨b1, o1, none⟩) [⟨1, 9⟩, ⟨3, 300⟩]) := DRow.later HL58.out hbx
  have HM64 : Hid (DRow v3 (some ⟨b3, o3, none⟩) [⟨1, 9⟩, ⟨3, 300⟩]) := DRow.later HM59.out hbx
  have HB65 : Hid (Below w.heap.size w v3) := HB60.out.trans (hbx.mono HB60.out.size)
  clear HX56 HY57 HL58 HM59 HB60 hbx
  refine hK.out _ _ ⟨(HX61.out).cells.1, (HX61.out).cells.2, (HY62.out).cells.1, (HY62.out).cells.2, (DRow.cells HL63.out (i := 0) (by simp)).1, (DRow.cells HL63.out (i := 0) (by simp)).2, (DRow.cells HM64.out (i := 1) (by simp)).1, (DRow.cells HM64.out (i := 1) (by simp)).2⟩ (fun hS => ?_)
  clear hK K
  refine wpAnyH_take (i := 18) (v := ?_) rfl (by kernel_rfl) (by kernel_rfl) (by kernel_rfl) (fun _ _ _ h => h) (Or.inl ⟨by rfl, ?_⟩) hS ?_
  rotate_left 1
  · intro w hSw; (try dsimp only at hSw); go_simp <;> with_reducible rfl
  simp only [List.getElem_toArray, List.getElem_cons_zero, List.getElem_cons_succ, Act.put, List.setIfInBounds_toArray, List.set_cons_zero, List.set_cons_succ]
  refine wpAnyH_take (i := 19) (v := ?_) rfl (by kernel_rfl) (by kernel_rfl) (by kernel_rfl) (fun _ _ _ h => h) (Or.inl ⟨by rfl, ?_⟩) hS ?_
  rotate_left 1
  · intro w hSw; (try dsimp only at hSw); go_simp <;> with_reducible rfl
  simp only [List.getElem_toArray, List.getElem_cons_zero, List.getElem_cons_succ, Act.put, List.setIfInBounds_toArray, List.set_cons_zero, List.set_cons_succ]
  refine wpAnyH_take (i := 20) (v := ?_) rfl (by kernel_rfl) (by kernel_rfl) (by kernel_rfl) (fun _ _ _ h => h) (Or.inl ⟨by rfl, ?_⟩) hS ?_
  rotate_left 1
  · intro w hSw; (try dsimp only at hSw); go_simp <;> with_reducible rfl
  simp only [List.getElem_toArray, List.getElem_cons_zero, List.getElem_cons_succ, Act.put, List.setIfInBounds_toArray, List.set_cons_zero, List.set_cons_succ]
  refine wpAnyH_ready (rs := [21]) (by kernel_rfl) (by simp) ?_
  refine AllReadyH.cons rfl (fun K hK => ?_) AllReadyH.nil
  go_simp
  refine Calls.mono (HBy.out _) ?_
  rintro r v4 ⟨y, rfl, hby, hbx⟩
  have HX66 : Hid (DtAt v4 g1 ⟨3, 300⟩) := HX61.out.later hbx HX61.out.lt
  have HY67 : Hid (DtAt v4 g2 ⟨3, 300⟩) := HY62.out.later hbx HY62.out.lt
  have HL68 : Hid (DRow v4 (some ⟨b1, o1, none⟩) [⟨1, 9⟩, ⟨3, 300⟩]) := DRow.later HL63.out hbx
  have HM69 : Hid (DRow v4 (some ⟨b3, o3, none⟩) [⟨1, 9⟩, ⟨3, 300⟩]) := DRow.later HM64.out hbx
  have HB70 : Hid (Below w.heap.size w v4) := HB65.out.trans (hbx.mono HB65.out.size)
  clear HX61 HY62 HL63 HM64 HB65 hbx
  refine hK.out _ _ ⟨(HX66.out).cells.1, (HX66.out).cells.2, (HY67.out).cells.1, (HY67.out).cells.2, (DRow.cells HL68.out (i := 0) (by simp)).1, (DRow.cells HL68.out (i := 0) (by simp)).2, (DRow.cells HM69.out (i := 1) (by simp)).1, (DRow.cells HM69.out (i := 1) (by simp)).2⟩ (fun hS => ?_)
  clear hK K
  have hst := bytes_text hby
  clear hby
  refine wpAnyH_weaken (S2 := fun w' => (w'.cell? ⟨g1, 0, none⟩ = some (.int .i64 3) ∧ w'.cell? ⟨g1, 1, none⟩ = some (.int .i64 300) ∧ w'.cell? ⟨g2, 0, none⟩ = some (.int .i64 3) ∧ w'.cell? ⟨g2, 1, none⟩ = some (.int .i64 300) ∧ w'.cell? ⟨b1, o1, none⟩ = some (.int .i64 1) ∧ w'.cell? ⟨b1, o1 + 1, none⟩ = some (.int .i64 9) ∧ w'.cell? ⟨b3, o3 + 2, none⟩ = some (.int .i64 3) ∧ w'.cell? ⟨b3, o3 + 2 + 1, none⟩ = some (.int .i64 300)) ∧ (convert 34 9 y).run Try.prog w' = .ok (.string (strOfNums [3, 172, 2])) w') (fun w h => h.1) _ _ _ _ ?_
  have hS : _ := And.intro hS hst
  have hs3 : ((strOfNums [3, 172, 2]).toList == [3, 172, 2]) = true := by kernel_rfl
  refine wpAnyH_take (i := 22) (v := ?_) rfl (by kernel_rfl) (by kernel_rfl) (by kernel_rfl) (fun _ _ _ h => h) (Or.inl ⟨by rfl, ?_⟩) hS ?_
  rotate_left 1
  · intro w hSw; (try dsimp only at hSw); obtain ⟨⟨hq1, hq2, hq3, hq4, hq5, hq6, hq7, hq8⟩, hq9⟩ := hSw; go_simp <;> with_reducible rfl
  simp only [List.getElem_toArray, List.getElem_cons_zero, List.getElem_cons_succ, Act.put, List.setIfInBounds_toArray, List.set_cons_zero, List.set_cons_succ]
  refine wpAnyH_take (i := 23) (v := ?_) rfl (by kernel_rfl) (by kernel_rfl) (by kernel_rfl) (fun _ _ _ h => h) (Or.inl ⟨by rfl, ?_⟩) hS ?_
  rotate_left 1
  · intro w hSw; (try dsimp only at hSw); obtain ⟨⟨hq1, hq2, hq3, hq4, hq5, hq6, hq7, hq8⟩, hq9⟩ := hSw; go_simp <;> with_reducible rfl
  simp only [List.getElem_toArray, List.getElem_cons_zero, List.getElem_cons_succ, Act.put, List.setIfInBounds_toArray, List.set_cons_zero, List.set_cons_succ]
  refine wpAnyH_take (i := 24) (v := ?_) rfl (by kernel_rfl) (by kernel_rfl) (by kernel_rfl) (fun _ _ _ h => h) (Or.inl ⟨by rfl, ?_⟩) hS ?_
  rotate_left 1
  · intro w hSw; (try dsimp only at hSw); obtain ⟨⟨hq1, hq2, hq3, hq4, hq5, hq6, hq7, hq8⟩, hq9⟩ := hSw; go_simp <;> with_reducible rfl
  simp only [List.getElem_toArray, List.getElem_cons_zero, List.getElem_cons_succ, Act.put, List.setIfInBounds_toArray, List.set_cons_zero, List.set_cons_succ]
  refine wpAnyH_take (i := 25) (v := ?_) rfl (by kernel_rfl) (by kernel_rfl) (by kernel_rfl) (fun _ _ _ h => h) (Or.inl ⟨by rfl, ?_⟩) hS ?_
  rotate_left 1
  · intro w hSw; (try dsimp only at hSw); obtain ⟨⟨hq1, hq2, hq3, hq4, hq5, hq6, hq7, hq8⟩, hq9⟩ := hSw; go_simp <;> with_reducible rfl
  simp only [List.getElem_toArray, List.getElem_cons_zero, List.getElem_cons_succ, Act.put, List.setIfInBounds_toArray, List.set_cons_zero, List.set_cons_succ]
  refine wpAnyH_take (i := 26) (v := ?_) rfl (by kernel_rfl) (by kernel_rfl) (by kernel_rfl) (fun _ _ _ h => h) (Or.inl ⟨by rfl, ?_⟩) hS ?_
  rotate_left 1
  · intro w hSw; (try dsimp only at hSw); obtain ⟨⟨hq1, hq2, hq3, hq4, hq5, hq6, hq7, hq8⟩, hq9⟩ := hSw; go_simp <;> with_reducible rfl
  simp only [List.getElem_toArray, List.getElem_cons_zero, List.getElem_cons_succ, Act.put, List.setIfInBounds_toArray, List.set_cons_zero, List.set_cons_succ]
  refine wpAnyH_take (i := 27) (v := ?_) rfl (by kernel_rfl) (by kernel_rfl) (by kernel_rfl) (fun _ _ _ h => h) (Or.inl ⟨by rfl, ?_⟩) hS ?_
  rotate_left 1
  · intro w hSw; (try dsimp only at hSw); obtain ⟨⟨hq1, hq2, hq3, hq4, hq5, hq6, hq7, hq8⟩, hq9⟩ := hSw; go_simp <;> with_reducible rfl
  simp only [List.getElem_toArray, List.getElem_cons_zero, List.getElem_cons_succ, Act.put, List.setIfInBounds_toArray, List.set_cons_zero, List.set_cons_succ]
  refine wpAnyH_take (i := 28) (v := ?_) rfl (by kernel_rfl) (by kernel_rfl) (by kernel_rfl) (fun _ _ _ h => h) (Or.inl ⟨by rfl, ?_⟩) hS ?_
  rotate_left 1
  · intro w hSw; (try dsimp only at hSw); obtain ⟨⟨hq1, hq2, hq3, hq4, hq5, hq6, hq7, hq8⟩, hq9⟩ := hSw; go_simp <;> with_reducible rfl
  simp only [List.getElem_toArray, List.getElem_cons_zero, List.getElem_cons_succ, Act.put, List.setIfInBounds_toArray, List.set_cons_zero, List.set_cons_succ]
  refine wpAnyH_take (i := 29) (v := ?_) rfl (by kernel_rfl) (by kernel_rfl) (by kernel_rfl) (fun _ _ _ h => h) (Or.inl ⟨by rfl, ?_⟩) hS ?_
  rotate_left 1
  · intro w hSw; (try dsimp only at hSw); obtain ⟨⟨hq1, hq2, hq3, hq4, hq5, hq6, hq7, hq8⟩, hq9⟩ := hSw; go_simp <;> with_reducible rfl
  simp only [List.getElem_toArray, List.getElem_cons_zero, List.getElem_cons_succ, Act.put, List.setIfInBounds_toArray, List.set_cons_zero, List.set_cons_succ]
  refine wpAnyH_take (i := 30) (v := ?_) rfl (by kernel_rfl) (by kernel_rfl) (by kernel_rfl) (fun _ _ _ h => h) (Or.inl ⟨by rfl, ?_⟩) hS ?_
  rotate_left 1
  · intro w hSw; (try dsimp only at hSw); obtain ⟨⟨hq1, hq2, hq3, hq4, hq5, hq6, hq7, hq8⟩, hq9⟩ := hSw; go_simp <;> with_reducible rfl
  simp only [List.getElem_toArray, List.getElem_cons_zero, List.getElem_cons_succ, Act.put, List.setIfInBounds_toArray, List.set_cons_zero, List.set_cons_succ]
  refine wpAnyH_take (i := 31) (v := ?_) rfl (by kernel_rfl) (by kernel_rfl) (by kernel_rfl) (fun _ _ _ h => h) (Or.inl ⟨by rfl, ?_⟩) hS ?_
  rotate_left 1
  · intro w hSw; (try dsimp only at hSw); obtain ⟨⟨hq1, hq2, hq3, hq4, hq5, hq6, hq7, hq8⟩, hq9⟩ := hSw; go_simp <;> with_reducible rfl
  simp only [List.getElem_toArray, List.getElem_cons_zero, List.getElem_cons_succ, Act.put, List.setIfInBounds_toArray, List.set_cons_zero, List.set_cons_succ]
  refine wpAnyH_take (i := 32) (v := ?_) rfl (by kernel_rfl) (by kernel_rfl) (by kernel_rfl) (fun _ _ _ h => h) (Or.inl ⟨by rfl, ?_⟩) hS ?_
  rotate_left 1
  · intro w hSw; (try dsimp only at hSw); obtain ⟨⟨hq1, hq2, hq3, hq4, hq5, hq6, hq7, hq8⟩, hq9⟩ := hSw; go_simp <;> with_reducible rfl
  simp only [List.getElem_toArray, List.getElem_cons_zero, List.getElem_cons_succ, Act.put, List.setIfInBounds_toArray, List.set_cons_zero, List.set_cons_succ]
  refine wpAnyH_take (i := 33) (v := ?_) rfl (by kernel_rfl) (by kernel_rfl) (by kernel_rfl) (fun _ _ _ h => h) (Or.inl ⟨by rfl, ?_⟩) hS ?_
  rotate_left 1
  · intro w hSw; (try dsimp only at hSw); obtain ⟨⟨hq1, hq2, hq3, hq4, hq5, hq6, hq7, hq8⟩, hq9⟩ := hSw; go_simp <;> with_reducible rfl
  simp only [List.getElem_toArray, List.getElem_cons_zero, List.getElem_cons_succ, Act.put, List.setIfInBounds_toArray, List.set_cons_zero, List.set_cons_succ]
  refine wpAnyH_take (i := 34) (v := ?_) rfl (by kernel_rfl) (by kernel_rfl) (by kernel_rfl) (fun _ _ _ h => h) (Or.inl ⟨by rfl, ?_⟩) hS ?_
  rotate_left 1
  · intro w hSw; (try dsimp only at hSw); obtain ⟨⟨hq1, hq2, hq3, hq4, hq5, hq6, hq7, hq8⟩, hq9⟩ := hSw; go_simp <;> with_reducible rfl
  simp only [List.getElem_toArray, List.getElem_cons_zero, List.getElem_cons_succ, Act.put, List.setIfInBounds_toArray, List.set_cons_zero, List.set_cons_succ]
  refine wpAnyH_take (i := 35) (v := ?_) rfl (by kernel_rfl) (by kernel_rfl) (by kernel_rfl) (fun _ _ _ h => h) (Or.inl ⟨by rfl, ?_⟩) hS ?_
  rotate_left 1
  · intro w hSw; (try dsimp only at hSw); obtain ⟨⟨hq1, hq2, hq3, hq4, hq5, hq6, hq7, hq8⟩, hq9⟩ := hSw; go_simp <;> with_reducible rfl
  simp only [List.getElem_toArray, List.getElem_cons_zero, List.getElem_cons_succ, Act.put, List.setIfInBounds_toArray, List.set_cons_zero, List.set_cons_succ]
  refine wpAnyH_take (i := 36) (v := ?_) rfl (by kernel_rfl) (by kernel_rfl) (by kernel_rfl) (fun _ _ _ h => h) (Or.inl ⟨by rfl, ?_⟩) hS ?_
  rotate_left 1
  · intro w hSw; (try dsimp only at hSw); obtain ⟨⟨hq1, hq2, hq3, hq4, hq5, hq6, hq7, hq8⟩, hq9⟩ := hSw; go_simp <;> with_reducible rfl
  simp only [List.getElem_toArray, List.getElem_cons_zero, List.getElem_cons_succ, Act.put, List.setIfInBounds_toArray, List.set_cons_zero, List.set_cons_succ]
  refine wpAnyH_take (i := 37) (v := ?_) rfl (by kernel_rfl) (by kernel_rfl) (by kernel_rfl) (fun _ _ _ h => h) (Or.inl ⟨by rfl, ?_⟩) hS ?_
  rotate_left 1
  · intro w hSw; (try dsimp only at hSw); obtain ⟨⟨hq1, hq2, hq3, hq4, hq5, hq6, hq7, hq8⟩, hq9⟩ := hSw; go_simp <;> with_reducible rfl
  simp only [List.getElem_toArray, List.getElem_cons_zero, List.getElem_cons_succ, Act.put, List.setIfInBounds_toArray, List.set_cons_zero, List.set_cons_succ]
  refine wpAnyH_take (i := 38) (v := ?_) rfl (by kernel_rfl) (by kernel_rfl) (by kernel_rfl) (fun _ _ _ h => h) (Or.inl ⟨by rfl, ?_⟩) hS ?_
  rotate_left 1
  · intro w hSw; (try dsimp only at hSw); obtain ⟨⟨hq1, hq2, hq3, hq4, hq5, hq6, hq7, hq8⟩, hq9⟩ := hSw; go_simp <;> with_reducible rfl
  simp only [List.getElem_toArray, List.getElem_cons_zero, List.getElem_cons_succ, Act.put, List.setIfInBounds_toArray, List.set_cons_zero, List.set_cons_succ]
  refine wpAnyH_take (i := 39) (v := ?_) rfl (by kernel_rfl) (by kernel_rfl) (by kernel_rfl) (fun _ _ _ h => h) (Or.inl ⟨by rfl, ?_⟩) hS ?_
  rotate_left 1
  · intro w hSw; (try dsimp only at hSw); obtain ⟨⟨hq1, hq2, hq3, hq4, hq5, hq6, hq7, hq8⟩, hq9⟩ := hSw; go_simp <;> with_reducible rfl
  simp only [List.getElem_toArray, List.getElem_cons_zero, List.getElem_cons_succ, Act.put, List.setIfInBounds_toArray, List.set_cons_zero, List.set_cons_succ]
  refine wpAnyH_take (i := 40) (v := ?_) rfl (by kernel_rfl) (by kernel_rfl) (by kernel_rfl) (fun _ _ _ h => h) (Or.inl ⟨by rfl, ?_⟩) hS ?_
  rotate_left 1
  · intro w hSw; (try dsimp only at hSw); obtain ⟨⟨hq1, hq2, hq3, hq4, hq5, hq6, hq7, hq8⟩, hq9⟩ := hSw; go_simp <;> with_reducible rfl
  simp only [List.getElem_toArray, List.getElem_cons_zero, List.getElem_cons_succ, Act.put, List.setIfInBounds_toArray, List.set_cons_zero, List.set_cons_succ]
  refine wpAnyH_take (i := 41) (v := ?_) rfl (by kernel_rfl) (by kernel_rfl) (by kernel_rfl) (fun _ _ _ h => h) (Or.inl ⟨by rfl, ?_⟩) hS ?_
  rotate_left 1
  · intro w hSw; (try dsimp only at hSw); obtain ⟨⟨hq1, hq2, hq3, hq4, hq5, hq6, hq7, hq8⟩, hq9⟩ := hSw; go_simp <;> with_reducible rfl
  simp only [List.getElem_toArray, List.getElem_cons_zero, List.getElem_cons_succ, Act.put, List.setIfInBounds_toArray, List.set_cons_zero, List.set_cons_succ]
  refine wpAnyH_take (i := 42) (v := ?_) rfl (by kernel_rfl) (by kernel_rfl) (by kernel_rfl) (fun _ _ _ h => h) (Or.inl ⟨by rfl, ?_⟩) hS ?_
  rotate_left 1
  · intro w hSw; (try dsimp only at hSw); obtain ⟨⟨hq1, hq2, hq3, hq4, hq5, hq6, hq7, hq8⟩, hq9⟩ := hSw; go_simp <;> with_reducible rfl
  simp only [List.getElem_toArray, List.getElem_cons_zero, List.getElem_cons_succ, Act.put, List.setIfInBounds_toArray, List.set_cons_zero, List.set_cons_succ]
  refine wpAnyH_take (i := 43) (v := ?_) rfl (by kernel_rfl) (by kernel_rfl) (by kernel_rfl) (fun _ _ _ h => h) (Or.inl ⟨by rfl, ?_⟩) hS ?_
  rotate_left 1
  · intro w hSw; (try dsimp only at hSw); obtain ⟨⟨hq1, hq2, hq3, hq4, hq5, hq6, hq7, hq8⟩, hq9⟩ := hSw; go_simp <;> with_reducible rfl
  simp only [List.getElem_toArray, List.getElem_cons_zero, List.getElem_cons_succ, Act.put, List.setIfInBounds_toArray, List.set_cons_zero, List.set_cons_succ]
  refine wpAnyH_take (i := 44) (v := ?_) rfl (by kernel_rfl) (by kernel_rfl) (by kernel_rfl) (fun _ _ _ h => h) (Or.inl ⟨by rfl, ?_⟩) hS ?_
  rotate_left 1
  · intro w hSw; (try dsimp only at hSw); obtain ⟨⟨hq1, hq2, hq3, hq4, hq5, hq6, hq7, hq8⟩, hq9⟩ := hSw; go_simp <;> with_reducible rfl
  simp only [List.getElem_toArray, List.getElem_cons_zero, List.getElem_cons_succ, Act.put, List.setIfInBounds_toArray, List.set_cons_zero, List.set_cons_succ]
  refine wpAnyH_take (i := 45) (v := ?_) rfl (by kernel_rfl) (by kernel_rfl) (by kernel_rfl) (fun _ _ _ h => h) (Or.inl ⟨by rfl, ?_⟩) hS ?_
  rotate_left 1
  · intro w hSw; (try dsimp only at hSw); obtain ⟨⟨hq1, hq2, hq3, hq4, hq5, hq6, hq7, hq8⟩, hq9⟩ := hSw; go_simp <;> with_reducible rfl
  simp only [List.getElem_toArray, List.getElem_cons_zero, List.getElem_cons_succ, Act.put, List.setIfInBounds_toArray, List.set_cons_zero, List.set_cons_succ]
  refine wpAnyH_take (i := 46) (v := ?_) rfl (by kernel_rfl) (by kernel_rfl) (by kernel_rfl) (fun _ _ _ h => h) (Or.inl ⟨by rfl, ?_⟩) hS ?_
  rotate_left 1
  · intro w hSw; (try dsimp only at hSw); obtain ⟨⟨hq1, hq2, hq3, hq4, hq5, hq6, hq7, hq8⟩, hq9⟩ := hSw; go_simp <;> with_reducible rfl
  simp only [List.getElem_toArray, List.getElem_cons_zero, List.getElem_cons_succ, Act.put, List.setIfInBounds_toArray, List.set_cons_zero, List.set_cons_succ]
  refine wpAnyH_take (i := 47) (v := ?_) rfl (by kernel_rfl) (by kernel_rfl) (by kernel_rfl) (fun _ _ _ h => h) (Or.inl ⟨by rfl, ?_⟩) hS ?_
  rotate_left 1
  · intro w hSw; (try dsimp only at hSw); obtain ⟨⟨hq1, hq2, hq3, hq4, hq5, hq6, hq7, hq8⟩, hq9⟩ := hSw; go_simp <;> with_reducible rfl
  simp only [List.getElem_toArray, List.getElem_cons_zero, List.getElem_cons_succ, Act.put, List.setIfInBounds_toArray, List.set_cons_zero, List.set_cons_succ]
  refine wpAnyH_take (i := 48) (v := ?_) rfl (by kernel_rfl) (by kernel_rfl) (by kernel_rfl) (fun _ _ _ h => h) (Or.inl ⟨by rfl, ?_⟩) hS ?_
  rotate_left 1
  · intro w hSw; (try dsimp only at hSw); obtain ⟨⟨hq1, hq2, hq3, hq4, hq5, hq6, hq7, hq8⟩, hq9⟩ := hSw; go_simp <;> with_reducible rfl
  simp only [List.getElem_toArray, List.getElem_cons_zero, List.getElem_cons_succ, Act.put, List.setIfInBounds_toArray, List.set_cons_zero, List.set_cons_succ]
  refine wpAnyH_take (i := 49) (v := ?_) rfl (by kernel_rfl) (by kernel_rfl) (by kernel_rfl) (fun _ _ _ h => h) (Or.inl ⟨by rfl, ?_⟩) hS ?_
  rotate_left 1
  · intro w hSw; (try dsimp only at hSw); obtain ⟨⟨hq1, hq2, hq3, hq4, hq5, hq6, hq7, hq8⟩, hq9⟩ := hSw; go_simp <;> with_reducible rfl
  simp only [List.getElem_toArray, List.getElem_cons_zero, List.getElem_cons_succ, Act.put, List.setIfInBounds_toArray, List.set_cons_zero, List.set_cons_succ]
  refine wpAnyH_take (i := 50) (v := ?_) rfl (by kernel_rfl) (by kernel_rfl) (by kernel_rfl) (fun _ _ _ h => h) (Or.inl ⟨by rfl, ?_⟩) hS ?_
  rotate_left 1
  · intro w hSw; (try dsimp only at hSw); obtain ⟨⟨hq1, hq2, hq3, hq4, hq5, hq6, hq7, hq8⟩, hq9⟩ := hSw; go_simp <;> with_reducible rfl
  simp only [List.getElem_toArray, List.getElem_cons_zero, List.getElem_cons_succ, Act.put, List.setIfInBounds_toArray, List.set_cons_zero, List.set_cons_succ]
  refine wpAnyH_take (i := 51) (v := ?_) rfl (by kernel_rfl) (by kernel_rfl) (by kernel_rfl) (fun _ _ _ h => h) (Or.inl ⟨by rfl, ?_⟩) hS ?_
  rotate_left 1
  · intro w hSw; (try dsimp only at hSw); obtain ⟨⟨hq1, hq2, hq3, hq4, hq5, hq6, hq7, hq8⟩, hq9⟩ := hSw; go_simp <;> with_reducible rfl
  simp only [List.getElem_toArray, List.getElem_cons_zero, List.getElem_cons_succ, Act.put, List.setIfInBounds_toArray, List.set_cons_zero, List.set_cons_succ]
  refine wpAnyH_take (i := 52) (v := ?_) rfl (by kernel_rfl) (by kernel_rfl) (by kernel_rfl) (fun _ _ _ h => h) (Or.inl ⟨by rfl, ?_⟩) hS ?_
  rotate_left 1
  · intro w hSw; (try dsimp only at hSw); obtain ⟨⟨hq1, hq2, hq3, hq4, hq5, hq6, hq7, hq8⟩, hq9⟩ := hSw; go_simp <;> with_reducible rfl
  simp only [List.getElem_toArray, List.getElem_cons_zero, List.getElem_cons_succ, Act.put, List.setIfInBounds_toArray, List.set_cons_zero, List.set_cons_succ]
  refine wpAnyH_take (i := 53) (v := ?_) rfl (by kernel_rfl) (by kernel_rfl) (by kernel_rfl) (fun _ _ _ h => h) (Or.inl ⟨by rfl, ?_⟩) hS ?_
  rotate_left 1
  · intro w hSw; (try dsimp only at hSw); obtain ⟨⟨hq1, hq2, hq3, hq4, hq5, hq6, hq7, hq8⟩, hq9⟩ := hSw; go_simp <;> with_reducible rfl
  simp only [List.getElem_toArray, List.getElem_cons_zero, List.getElem_cons_succ, Act.put, List.setIfInBounds_toArray, List.set_cons_zero, List.set_cons_succ]
  refine wpAnyH_take (i := 54) (v := ?_) rfl (by kernel_rfl) (by kernel_rfl) (by kernel_rfl) (fun _ _ _ h => h) (Or.inl ⟨by rfl, ?_⟩) hS ?_
  rotate_left 1
  · intro w hSw; (try dsimp only at hSw); obtain ⟨⟨hq1, hq2, hq3, hq4, hq5, hq6, hq7, hq8⟩, hq9⟩ := hSw; go_simp <;> with_reducible rfl
  simp only [List.getElem_toArray, List.getElem_cons_zero, List.getElem_cons_succ, Act.put, List.setIfInBounds_toArray, List.set_cons_zero, List.set_cons_succ]
  refine wpAnyH_take (i := 55) (v := ?_) rfl (by kernel_rfl) (by kernel_rfl) (by kernel_rfl) (fun _ _ _ h => h) (Or.inl ⟨by rfl, ?_⟩) hS ?_
  rotate_left 1
  · intro w hSw; (try dsimp only at hSw); obtain ⟨⟨hq1, hq2, hq3, hq4, hq5, hq6, hq7, hq8⟩, hq9⟩ := hSw; go_simp <;> with_reducible rfl
  simp only [List.getElem_toArray, List.getElem_cons_zero, List.getElem_cons_succ, Act.put, List.setIfInBounds_toArray, List.set_cons_zero, List.set_cons_succ]
  refine wpAnyH_take (i := 56) (v := ?_) rfl (by kernel_rfl) (by kernel_rfl) (by kernel_rfl) (fun _ _ _ h => h) (Or.inl ⟨by rfl, ?_⟩) hS ?_
  rotate_left 1
  · intro w hSw; (try dsimp only at hSw); obtain ⟨⟨hq1, hq2, hq3, hq4, hq5, hq6, hq7, hq8⟩, hq9⟩ := hSw; go_simp <;> with_reducible rfl
  simp only [List.getElem_toArray, List.getElem_cons_zero, List.getElem_cons_succ, Act.put, List.setIfInBounds_toArray, List.set_cons_zero, List.set_cons_succ]
  refine wpAnyH_take (i := 57) (v := ?_) rfl (by kernel_rfl) (by kernel_rfl) (by kernel_rfl) (fun _ _ _ h => h) (Or.inl ⟨by rfl, ?_⟩) hS ?_
  rotate_left 1
  · intro w hSw; (try dsimp only at hSw); obtain ⟨⟨hq1, hq2, hq3, hq4, hq5, hq6, hq7, hq8⟩, hq9⟩ := hSw; go_simp <;> with_reducible rfl
  simp only [List.getElem_toArray, List.getElem_cons_zero, List.getElem_cons_succ, Act.put, List.setIfInBounds_toArray, List.set_cons_zero, List.set_cons_succ]
  refine wpAnyH_take (i := 58) (v := ?_) rfl (by kernel_rfl) (by kernel_rfl) (by kernel_rfl) (fun _ _ _ h => h) (Or.inl ⟨by rfl, ?_⟩) hS ?_
  rotate_left 1
  · intro w hSw; (try dsimp only at hSw); obtain ⟨⟨hq1, hq2, hq3, hq4, hq5, hq6, hq7, hq8⟩, hq9⟩ := hSw; go_simp <;> with_reducible rfl
  simp only [List.getElem_toArray, List.getElem_cons_zero, List.getElem_cons_succ, Act.put, List.setIfInBounds_toArray, List.set_cons_zero, List.set_cons_succ]
  refine wpAnyH_done (by kernel_rfl) ?_ _
  clear hS hst
  go_wp2
  go_ret
  exact ⟨rfl, by first | exact HB70.out | (rw [← hg1]; exact HB70.out)⟩
end Go.Proofs.Ytehaeepihjookaa
