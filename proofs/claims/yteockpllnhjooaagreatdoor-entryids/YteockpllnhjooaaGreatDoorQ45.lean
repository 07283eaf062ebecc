/-
  L6Ids.
-/
import Derived.Test.YteockpllnhjooaaGreatDoorQ43
import Derived.Test.YteockpllnhjooaaGreatDoorQ40
import Derived.Test.YteockpllnhjooaaGreatDoorQ44
import Derived.Deep.Cut
namespace Go.Proofs.YteockpllnhjooaaGreatDoor
open Go.RowKit NumMath
open EntMath (E)
set_option maxRecDepth 100000
set_option linter.unusedVariables false
set_option linter.unusedSimpArgs false
attribute [-simp] Tryz.isAgg33 Tryz.zeroValue33

set_option maxHeartbeats 16000000 in
theorem entryIds_walk (a b : E) (n2 n3 n4 n5 : Int) (W : World) (ht : Env W) (hfa : InFit a) (hfb : InFit b) (w2 : (Lit.int .u8 n2).wf = true) (w3 : (Lit.int .u8 n3).wf = true) (w4 : (Lit.int .u8 n4).wf = true) (w5 : (Lit.int .u16 n5).wf = true) :
    Calls Tryz.prog 5 #[entV a, entV b, .int .u8 n2, .int .u8 n3, .int .u8 n4, .int .u16 n5] W fun r W' => r = .returned (.bool true) ∧ Below W.heap.size W W' := by
  have hb2 := bounds_u8 w2
  have hb3 := bounds_u8 w3
  have hb4 := bounds_u8 w4
  have hb5 := bounds_u16 w5
  obtain ⟨k, rfl⟩ : ∃ n : Nat, n2 = (n : Int) := ⟨n2.toNat, by omega⟩
  obtain ⟨j, rfl⟩ : ∃ n : Nat, n3 = (n : Int) := ⟨n3.toNat, by omega⟩
  obtain ⟨i, rfl⟩ : ∃ n : Nat, n4 = (n : Int) := ⟨n4.toNat, by omega⟩
  obtain ⟨t, rfl⟩ : ∃ n : Nat, n5 = (n : Int) := ⟨n5.toNat, by omega⟩
  have HT0 : Hid (Env W) := ht
  have HKn : Hid (∀ w, Below W.heap.size W w → _) := fun w hB => known_any w (ht.later hB)
  have HSa : Hid (∀ w, _) := fun w => smallEnt_any a w
  have HSb : Hid (∀ w, _) := fun w => smallEnt_any b w
  have HE1 : Hid (∀ w, _) := fun w => seatEntry_any k j t w (by omega) (by omega) (by omega)
  have HE2 : Hid (∀ w, _) := fun w => seatEntry_any k i t w (by omega) (by omega) (by omega)
  have HE3 : Hid (∀ w, _) := fun w => seatEntry_any ((k + 6) % 256) j t w (by omega) (by omega) (by omega)
  have ek : IntKind.u8.wrap ((k : Int) + 6) = (((k + 6) % 256 : Nat) : Int) := by rw [IntKind.wrap_u8]; omega
  have hq1 := EFit.of (EntMath.right_fit (seatE_right k j t))
  have hq2 := EFit.of (EntMath.right_fit (seatE_right k i t))
  have hq3 := EFit.of (EntMath.right_fit (seatE_right ((k + 6) % 256) j t))
  have HQ : Hid (smallE a = true → smallE b = true → ∀ e ∈ [a, b, seatE k j t, seatE k i t, seatE ((k + 6) % 256) j t], EFit e) := fun ha hb e he => by
    simp only [List.mem_cons, List.not_mem_nil, or_false] at he
    rcases he with rfl | rfl | rfl | rfl | rfl
    · exact small_efit hfa ha
    · exact small_efit hfb hb
    · exact hq1
    · exact hq2
    · exact hq3
  have HBy : Hid (∀ e, EFit e → ∀ w, Below W.heap.size W w → _) := fun e hF w hB => entBytes_any e w (ht.later hB).max hF
  have HRi : Hid (∀ e, EFit e → ∀ w, Below W.heap.size W w → _) := fun e hF w hB => entRight_any e w (ht.later hB).max hF
  have HId : Hid (∀ e, EFit e → ∀ w, Below W.heap.size W w → _) := fun e hF w hB => entId_any e w (ht.later hB) hF
  generalize seatE k j t = s1 at *
  generalize seatE k i t = s2 at *
  generalize seatE ((k + 6) % 256) j t = s3 at *
  clear hq1 hq2 hq3 hfa hfb ht w2 w3 w4 w5 hb3 hb4 hb5
  have HA0 : Hid (EntAt ((W.alloc (.cells #[.string (strN a.feed), .string (strN a.guid), .string (strN a.title), .string (strN a.link), .string (strN a.body), .int .i64 a.time] 23)).alloc (.cells #[.string (strN b.feed), .string (strN b.guid), .string (strN b.title), .string (strN b.link), .string (strN b.body), .int .i64 b.time] 23)) W.heap.size a) := (EntAt.new W a).alloc _
  have HB0 : Hid (EntAt ((W.alloc (.cells #[.string (strN a.feed), .string (strN a.guid), .string (strN a.title), .string (strN a.link), .string (strN a.body), .int .i64 a.time] 23)).alloc (.cells #[.string (strN b.feed), .string (strN b.guid), .string (strN b.title), .string (strN b.link), .string (strN b.body), .int .i64 b.time] 23)) (W.alloc (.cells #[.string (strN a.feed), .string (strN a.guid), .string (strN a.title), .string (strN a.link), .string (strN a.body), .int .i64 a.time] 23)).heap.size b) := EntAt.new _ b
  have HL0 : Hid (Below W.heap.size W ((W.alloc (.cells #[.string (strN a.feed), .string (strN a.guid), .string (strN a.title), .string (strN a.link), .string (strN a.body), .int .i64 a.time] 23)).alloc (.cells #[.string (strN b.feed), .string (strN b.guid), .string (strN b.title), .string (strN b.link), .string (strN b.body), .int .i64 b.time] 23))) := ((Below.refl _ _).alloc (Nat.le_refl _) _).alloc (by simp) _
  have hgb : (W.alloc (.cells #[.string (strN a.feed), .string (strN a.guid), .string (strN a.title), .string (strN a.link), .string (strN a.body), .int .i64 a.time] 23)).heap.size = W.heap.size + 1 := by simp
  rw [hgb] at HB0
  unfold entV at HSa HSb HE1 HE2 HE3 HBy HRi HId ⊢
  go_enter Tryz.func5, Tryz.ntmps5
  go_upto_region 1 with (fail)
  generalize (W.alloc (.cells #[.string (strN a.feed), .string (strN a.guid), .string (strN a.title), .string (strN a.link), .string (strN a.body), .int .i64 a.time] 23)).alloc (.cells #[.string (strN b.feed), .string (strN b.guid), .string (strN b.title), .string (strN b.link), .string (strN b.body), .int .i64 b.time] 23) = w0 at *
  clear hgb
  generalize hga : W.heap.size = ga at HA0 HB0 ⊢
  go_wp2_with fail
  refine Calls.mono (HKn.out _ HL0.out) ?_
  rintro e w21 ⟨rfl, hb21⟩
  have HA22 : Hid (EntAt w21 ga a) := HA0.out.later hb21 HA0.out.lt
  have HB23 : Hid (EntAt w21 (ga + 1) b) := HB0.out.later hb21 HB0.out.lt
  have HB24 : Hid (Below W.heap.size W w21) := HL0.out.trans (hb21.mono HL0.out.size)
  clear HA0 HB0 HL0 hb21
  obtain ⟨A_0, A_1, A_2, A_3, A_4, A_5⟩ := HA22.out.cells
  go_wp2_with fail
  refine Calls.mono (HSa.out _) ?_
  rintro e w25 ⟨rfl, hb25⟩
  have HA26 : Hid (EntAt w25 ga a) := HA22.out.later hb25 HA22.out.lt
  have HB27 : Hid (EntAt w25 (ga + 1) b) := HB23.out.later hb25 HB23.out.lt
  have HB28 : Hid (Below W.heap.size W w25) := HB24.out.trans (hb25.mono HB24.out.size)
  clear HA22 HB23 HB24 hb25
  clear A_0 A_1 A_2 A_3 A_4 A_5
  cases hsa : smallE a with
  | false =>
    go_wp2
    go_ret
    exact ⟨rfl, HB28.out⟩
  | true =>
    obtain ⟨B_0, B_1, B_2, B_3, B_4, B_5⟩ := HB27.out.cells
    go_wp2_with fail
    refine Calls.mono (HSb.out _) ?_
    rintro e w29 ⟨rfl, hb29⟩
    have HA30 : Hid (EntAt w29 ga a) := HA26.out.later hb29 HA26.out.lt
    have HB31 : Hid (EntAt w29 (ga + 1) b) := HB27.out.later hb29 HB27.out.lt
    have HB32 : Hid (Below W.heap.size W w29) := HB28.out.trans (hb29.mono HB28.out.size)
    clear HA26 HB27 HB28 hb29
    clear B_0 B_1 B_2 B_3 B_4 B_5
    cases hsb : smallE b with
    | false =>
      go_wp2
      go_ret
      exact ⟨rfl, HB32.out⟩
    | true =>
      have HQ2 : Hid (∀ e ∈ [a, b, s1, s2, s3], EFit e) := HQ.out hsa hsb
      clear HSa HSb HQ hsa hsb HKn
      go_wp2_with fail
      have HA33 : Hid (EntAt w29.drew ga a) := ⟨Arr.drew HA30.out.arr⟩
      have HB34 : Hid (EntAt w29.drew (ga + 1) b) := ⟨Arr.drew HB31.out.arr⟩
      have HB35 : Hid (Below W.heap.size W w29.drew) := HB32.out.drew
      clear HA30 HB31 HB32
      obtain ⟨A_0, A_1, A_2, A_3, A_4, A_5⟩ := HA33.out.cells
      obtain ⟨B_0, B_1, B_2, B_3, B_4, B_5⟩ := HB34.out.cells
      refine wp_region_held_drew (S := fun w' => w'.cell? ⟨ga, 0, none⟩ = some (.string (strN a.feed)) ∧ w'.cell? ⟨ga, 1, none⟩ = some (.string (strN a.guid)) ∧ w'.cell? ⟨ga, 2, none⟩ = some (.string (strN a.title)) ∧ w'.cell? ⟨ga, 3, none⟩ = some (.string (strN a.link)) ∧ w'.cell? ⟨ga, 4, none⟩ = some (.string (strN a.body)) ∧ w'.cell? ⟨ga, 5, none⟩ = some (.int .i64 a.time) ∧ w'.cell? ⟨ga + 1, 0, none⟩ = some (.string (strN b.feed)) ∧ w'.cell? ⟨ga + 1, 1, none⟩ = some (.string (strN b.guid)) ∧ w'.cell? ⟨ga + 1, 2, none⟩ = some (.string (strN b.title)) ∧ w'.cell? ⟨ga + 1, 3, none⟩ = some (.string (strN b.link)) ∧ w'.cell? ⟨ga + 1, 4, none⟩ = some (.string (strN b.body)) ∧ w'.cell? ⟨ga + 1, 5, none⟩ = some (.int .i64 b.time)) (by kernel_rfl) ⟨A_0, A_1, A_2, A_3, A_4, A_5, B_0, B_1, B_2, B_3, B_4, B_5⟩ (fun hS => ?_)
      clear A_0 A_1 A_2 A_3 A_4 A_5 B_0 B_1 B_2 B_3 B_4 B_5
      generalize w29.drew = v0 at *
      refine wpAnyH_take (i := 0) (v := ?_) rfl (by kernel_rfl) (by kernel_rfl) (by kernel_rfl) (fun _ _ _ h => h) (Or.inl ⟨by rfl, ?_⟩) hS ?_
      rotate_left 1
      · intro w hSw; (try dsimp only at hSw); go_simp <;> with_reducible rfl
      simp only [List.getElem_toArray, List.getElem_cons_zero, List.getElem_cons_succ, Act.put, List.setIfInBounds_toArray, List.set_cons_zero, List.set_cons_succ]
      refine wpAnyH_take (i := 1) (v := ?_) rfl (by kernel_rfl) (by kernel_rfl) (by kernel_rfl) (fun _ _ _ h => h) (Or.inl ⟨by rfl, ?_⟩) hS ?_
      rotate_left 1
      · intro w hSw; (try dsimp only at hSw); go_simp <;> with_reducible rfl
      simp only [List.getElem_toArray, List.getElem_cons_zero, List.getElem_cons_succ, Act.put, List.setIfInBounds_toArray, List.set_cons_zero, List.set_cons_succ]
      refine wpAnyH_take (i := 2) (v := ?_) rfl (by kernel_rfl) (by kernel_rfl) (by kernel_rfl) (fun _ _ _ h => h) (Or.inl ⟨by rfl, ?_⟩) hS ?_
      rotate_left 1
      · intro w hSw; (try dsimp only at hSw); go_simp <;> with_reducible rfl
      simp only [List.getElem_toArray, List.getElem_cons_zero, List.getElem_cons_succ, Act.put, List.setIfInBounds_toArray, List.set_cons_zero, List.set_cons_succ]
      refine wpAnyH_take (i := 3) (v := ?_) rfl (by kernel_rfl) (by kernel_rfl) (by kernel_rfl) (fun _ _ _ h => h) (Or.inl ⟨by rfl, ?_⟩) hS ?_
      rotate_left 1
      · intro w hSw; (try dsimp only at hSw); go_simp <;> with_reducible rfl
      simp only [List.getElem_toArray, List.getElem_cons_zero, List.getElem_cons_succ, Act.put, List.setIfInBounds_toArray, List.set_cons_zero, List.set_cons_succ]
      refine wpAnyH_take (i := 4) (v := ?_) rfl (by kernel_rfl) (by kernel_rfl) (by kernel_rfl) (fun _ _ _ h => h) (Or.inl ⟨by rfl, ?_⟩) hS ?_
      rotate_left 1
      · intro w hSw; (try dsimp only at hSw); go_simp <;> with_reducible rfl
      simp only [List.getElem_toArray, List.getElem_cons_zero, List.getElem_cons_succ, Act.put, List.setIfInBounds_toArray, List.set_cons_zero, List.set_cons_succ]
      refine wpAnyH_take (i := 6) (v := ?_) rfl (by kernel_rfl) (by kernel_rfl) (by kernel_rfl) (fun _ _ _ h => h) (Or.inl ⟨by rfl, ?_⟩) hS ?_
      rotate_left 1
      · intro w hSw; (try dsimp only at hSw); go_simp <;> with_reducible rfl
      simp only [List.getElem_toArray, List.getElem_cons_zero, List.getElem_cons_succ, Act.put, List.setIfInBounds_toArray, List.set_cons_zero, List.set_cons_succ]
      refine wpAnyH_take (i := 7) (v := ?_) rfl (by kernel_rfl) (by kernel_rfl) (by kernel_rfl) (fun _ _ _ h => h) (Or.inl ⟨by rfl, ?_⟩) hS ?_
      rotate_left 1
      · intro w hSw; (try dsimp only at hSw); go_simp <;> with_reducible rfl
      simp only [List.getElem_toArray, List.getElem_cons_zero, List.getElem_cons_succ, Act.put, List.setIfInBounds_toArray, List.set_cons_zero, List.set_cons_succ]
      refine wpAnyH_take (i := 8) (v := ?_) rfl (by kernel_rfl) (by kernel_rfl) (by kernel_rfl) (fun _ _ _ h => h) (Or.inl ⟨by rfl, ?_⟩) hS ?_
      rotate_left 1
      · intro w hSw; (try dsimp only at hSw); go_simp <;> with_reducible rfl
      simp only [List.getElem_toArray, List.getElem_cons_zero, List.getElem_cons_succ, Act.put, List.setIfInBounds_toArray, List.set_cons_zero, List.set_cons_succ]
      refine wpAnyH_take (i := 10) (v := ?_) rfl (by kernel_rfl) (by kernel_rfl) (by kernel_rfl) (fun _ _ _ h => h) (Or.inl ⟨by rfl, ?_⟩) hS ?_
      rotate_left 1
      · intro w hSw; (try dsimp only at hSw); go_simp <;> with_reducible rfl
      simp only [List.getElem_toArray, List.getElem_cons_zero, List.getElem_cons_succ, Act.put, List.setIfInBounds_toArray, List.set_cons_zero, List.set_cons_succ]
      refine wpAnyH_take (i := 11) (v := ?_) rfl (by kernel_rfl) (by kernel_rfl) (by kernel_rfl) (fun _ _ _ h => h) (Or.inl ⟨by rfl, ?_⟩) hS ?_
      rotate_left 1
      · intro w hSw; (try dsimp only at hSw); go_simp <;> with_reducible rfl
      simp only [List.getElem_toArray, List.getElem_cons_zero, List.getElem_cons_succ, Act.put, List.setIfInBounds_toArray, List.set_cons_zero, List.set_cons_succ]
      refine wpAnyH_take (i := 12) (v := ?_) rfl (by kernel_rfl) (by kernel_rfl) (by kernel_rfl) (fun _ _ _ h => h) (Or.inl ⟨by rfl, ?_⟩) hS ?_
      rotate_left 1
      · intro w hSw; (try dsimp only at hSw); go_simp <;> with_reducible rfl
      simp only [List.getElem_toArray, List.getElem_cons_zero, List.getElem_cons_succ, Act.put, List.setIfInBounds_toArray, List.set_cons_zero, List.set_cons_succ]
      refine wpAnyH_take (i := 13) (v := ?_) rfl (by kernel_rfl) (by kernel_rfl) (by kernel_rfl) (fun _ _ _ h => h) (Or.inl ⟨by rfl, ?_⟩) hS ?_
      rotate_left 1
      · intro w hSw; (try dsimp only at hSw); go_simp <;> with_reducible rfl
      simp only [List.getElem_toArray, List.getElem_cons_zero, List.getElem_cons_succ, Act.put, List.setIfInBounds_toArray, List.set_cons_zero, List.set_cons_succ]
      refine wpAnyH_ready (rs := [5]) (by kernel_rfl) (by simp) ?_
      refine AllReadyH.cons rfl (fun K hK => ?_) AllReadyH.nil
      go_simp
      refine Calls.mono (HE1.out _) ?_
      rintro e v1 ⟨rfl, hbx⟩
      have HA36 : Hid (EntAt v1 ga a) := HA33.out.later hbx HA33.out.lt
      have HB37 : Hid (EntAt v1 (ga + 1) b) := HB34.out.later hbx HB34.out.lt
      have HB38 : Hid (Below W.heap.size W v1) := HB35.out.trans (hbx.mono HB35.out.size)
      clear HA33 HB34 HB35 hbx
      refine hK.out _ _ ⟨HA36.out.cells.1, HA36.out.cells.2.1, HA36.out.cells.2.2.1, HA36.out.cells.2.2.2.1, HA36.out.cells.2.2.2.2.1, HA36.out.cells.2.2.2.2.2, HB37.out.cells.1, HB37.out.cells.2.1, HB37.out.cells.2.2.1, HB37.out.cells.2.2.2.1, HB37.out.cells.2.2.2.2.1, HB37.out.cells.2.2.2.2.2⟩ (fun hS => ?_)
      clear hK K
      refine wpAnyH_ready (rs := [9]) (by kernel_rfl) (by simp) ?_
      refine AllReadyH.cons rfl (fun K hK => ?_) AllReadyH.nil
      go_simp
      refine Calls.mono (HE2.out _) ?_
      rintro e v2 ⟨rfl, hbx⟩
      have HA39 : Hid (EntAt v2 ga a) := HA36.out.later hbx HA36.out.lt
      have HB40 : Hid (EntAt v2 (ga + 1) b) := HB37.out.later hbx HB37.out.lt
      have HB41 : Hid (Below W.heap.size W v2) := HB38.out.trans (hbx.mono HB38.out.size)
      clear HA36 HB37 HB38 hbx
      refine hK.out _ _ ⟨HA39.out.cells.1, HA39.out.cells.2.1, HA39.out.cells.2.2.1, HA39.out.cells.2.2.2.1, HA39.out.cells.2.2.2.2.1, HA39.out.cells.2.2.2.2.2, HB40.out.cells.1, HB40.out.cells.2.1, HB40.out.cells.2.2.1, HB40.out.cells.2.2.2.1, HB40.out.cells.2.2.2.2.1, HB40.out.cells.2.2.2.2.2⟩ (fun hS => ?_)
      clear hK K
      refine wpAnyH_ready (rs := [14]) (by kernel_rfl) (by simp) ?_
      refine AllReadyH.cons rfl (fun K hK => ?_) AllReadyH.nil
      go_simp
      refine Calls.mono (HE3.out _) ?_
      rintro e v3 ⟨rfl, hbx⟩
      have HA42 : Hid (EntAt v3 ga a) := HA39.out.later hbx HA39.out.lt
      have HB43 : Hid (EntAt v3 (ga + 1) b) := HB40.out.later hbx HB40.out.lt
      have HB44 : Hid (Below W.heap.size W v3) := HB41.out.trans (hbx.mono HB41.out.size)
      clear HA39 HB40 HB41 hbx
      refine hK.out _ _ ⟨HA42.out.cells.1, HA42.out.cells.2.1, HA42.out.cells.2.2.1, HA42.out.cells.2.2.2.1, HA42.out.cells.2.2.2.2.1, HA42.out.cells.2.2.2.2.2, HB43.out.cells.1, HB43.out.cells.2.1, HB43.out.cells.2.2.1, HB43.out.cells.2.2.2.1, HB43.out.cells.2.2.2.2.1, HB43.out.cells.2.2.2.2.2⟩ (fun hS => ?_)
      clear hK K
      clear HE1 HE2 HE3
      refine wpAnyH_ready (rs := [15]) (by kernel_rfl) (by simp) ?_
      refine AllReadyH.cons rfl (fun K hK => ?_) AllReadyH.nil
      go_simp
      have HG0 : Hid (Arr (v3.alloc (.cells #[.string (strN a.feed), .string (strN a.guid), .string (strN a.title), .string (strN a.link), .string (strN a.body), .int .i64 a.time, .string (strN b.feed), .string (strN b.guid), .string (strN b.title), .string (strN b.link), .string (strN b.body), .int .i64 b.time, .string (strN s1.feed), .string (strN s1.guid), .string (strN s1.title), .string (strN s1.link), .string (strN s1.body), .int .i64 s1.time, .string (strN s2.feed), .string (strN s2.guid), .string (strN s2.title), .string (strN s2.link), .string (strN s2.body), .int .i64 s2.time, .string (strN s3.feed), .string (strN s3.guid), .string (strN s3.title), .string (strN s3.link), .string (strN s3.body), .int .i64 s3.time] 23)) v3.heap.size 23 (flatE [a, b, s1, s2, s3])) := Arr.new v3 23 (flatE [a, b, s1, s2, s3]) rfl
      have HA45 : Hid (EntAt (v3.alloc (.cells #[.string (strN a.feed), .string (strN a.guid), .string (strN a.title), .string (strN a.link), .string (strN a.body), .int .i64 a.time, .string (strN b.feed), .string (strN b.guid), .string (strN b.title), .string (strN b.link), .string (strN b.body), .int .i64 b.time, .string (strN s1.feed), .string (strN s1.guid), .string (strN s1.title), .string (strN s1.link), .string (strN s1.body), .int .i64 s1.time, .string (strN s2.feed), .string (strN s2.guid), .string (strN s2.title), .string (strN s2.link), .string (strN s2.body), .int .i64 s2.time, .string (strN s3.feed), .string (strN s3.guid), .string (strN s3.title), .string (strN s3.link), .string (strN s3.body), .int .i64 s3.time] 23)) ga a) := HA42.out.alloc _
      have HB46 : Hid (EntAt (v3.alloc (.cells #[.string (strN a.feed), .string (strN a.guid), .string (strN a.title), .string (strN a.link), .string (strN a.body), .int .i64 a.time, .string (strN b.feed), .string (strN b.guid), .string (strN b.title), .string (strN b.link), .string (strN b.body), .int .i64 b.time, .string (strN s1.feed), .string (strN s1.guid), .string (strN s1.title), .string (strN s1.link), .string (strN s1.body), .int .i64 s1.time, .string (strN s2.feed), .string (strN s2.guid), .string (strN s2.title), .string (strN s2.link), .string (strN s2.body), .int .i64 s2.time, .string (strN s3.feed), .string (strN s3.guid), .string (strN s3.title), .string (strN s3.link), .string (strN s3.body), .int .i64 s3.time] 23)) (ga + 1) b) := HB43.out.alloc _
      have HB47 : Hid (Below W.heap.size W (v3.alloc (.cells #[.string (strN a.feed), .string (strN a.guid), .string (strN a.title), .string (strN a.link), .string (strN a.body), .int .i64 a.time, .string (strN b.feed), .string (strN b.guid), .string (strN b.title), .string (strN b.link), .string (strN b.body), .int .i64 b.time, .string (strN s1.feed), .string (strN s1.guid), .string (strN s1.title), .string (strN s1.link), .string (strN s1.body), .int .i64 s1.time, .string (strN s2.feed), .string (strN s2.guid), .string (strN s2.title), .string (strN s2.link), .string (strN s2.body), .int .i64 s2.time, .string (strN s3.feed), .string (strN s3.guid), .string (strN s3.title), .string (strN s3.link), .string (strN s3.body), .int .i64 s3.time] 23))) := HB44.out.alloc HB44.out.size _
      clear HA42 HB43 HB44
      refine hK.out _ _ ⟨HA45.out.cells.1, HA45.out.cells.2.1, HA45.out.cells.2.2.1, HA45.out.cells.2.2.2.1, HA45.out.cells.2.2.2.2.1, HA45.out.cells.2.2.2.2.2, HB46.out.cells.1, HB46.out.cells.2.1, HB46.out.cells.2.2.1, HB46.out.cells.2.2.2.1, HB46.out.cells.2.2.2.2.1, HB46.out.cells.2.2.2.2.2⟩ (fun hS => ?_)
      clear hK K
      refine wpAnyH_take (i := 16) (v := ?_) rfl (by kernel_rfl) (by kernel_rfl) (by kernel_rfl) (fun _ _ _ h => h) (Or.inl ⟨by rfl, ?_⟩) hS ?_
      rotate_left 1
      · intro w hSw; (try dsimp only at hSw); go_simp <;> with_reducible rfl
      simp only [List.getElem_toArray, List.getElem_cons_zero, List.getElem_cons_succ, Act.put, List.setIfInBounds_toArray, List.set_cons_zero, List.set_cons_succ]
      refine wpAnyH_done (by kernel_rfl) ?_ _
      clear HA45
      clear HB46
      clear hS
      generalize v3.alloc (.cells #[.string (strN a.feed), .string (strN a.guid), .string (strN a.title), .string (strN a.link), .string (strN a.body), .int .i64 a.time, .string (strN b.feed), .string (strN b.guid), .string (strN b.title), .string (strN b.link), .string (strN b.body), .int .i64 b.time, .string (strN s1.feed), .string (strN s1.guid), .string (strN s1.title), .string (strN s1.link), .string (strN s1.body), .int .i64 s1.time, .string (strN s2.feed), .string (strN s2.guid), .string (strN s2.title), .string (strN s2.link), .string (strN s2.body), .int .i64 s2.time, .string (strN s3.feed), .string (strN s3.guid), .string (strN s3.title), .string (strN s3.link), .string (strN s3.body), .int .i64 s3.time] 23) = w5 at *
      generalize v3.heap.size = g at *
      have HQm : Hid (∀ x, x < 5 → EFit ([a, b, s1, s2, s3][x]?.getD EntMath.zero)) := fun x hx => HQ2.out _ (by
        have : x < [a, b, s1, s2, s3].length := by simpa using hx
        simp only [List.getElem?_eq_getElem this, Option.getD_some]
        exact List.getElem_mem this)
      have HGc : Hid (∀ w x, x < 5 → Arr w g 23 (flatE [a, b, s1, s2, s3]) → _) := fun w x hx h => row_cells h x (by simpa using hx)
      clear HQ2
      obtain ⟨L, hL⟩ : ∃ L, L = [a, b, s1, s2, s3] := ⟨_, rfl⟩
      rw [← hL] at HG0 HQm HGc
      clear hL
      go_wp2
      go_loopw [14] (fun i wr => ∃ m : Nat, m ≤ 5 ∧ i = .int .i64 m ∧ Arr wr g 23 (flatE L) ∧ Below W.heap.size W wr) (fun i _ => 5 - (intOf i).toNat)
      case atStart => exact ⟨0, by omega, rfl, HG0.out, HB47.out⟩
      case round =>
        obtain ⟨m, hm, rfl, hG, hB⟩ := hrel
        have HG : Hid (Arr wr g 23 (flatE L)) := hG
        have HB : Hid (Below W.heap.size W wr) := hB
        clear hG hB HG0 HB47
        by_cases hmn : m < 5
        · have hmi : (m : Int) < 5 := by omega
          go_wp2
          go_loopw [15] (fun i wr => ∃ n : Nat, n ≤ 5 ∧ i = .int .i64 n ∧ Arr wr g 23 (flatE L) ∧ Below W.heap.size W wr) (fun i _ => 5 - (intOf i).toNat)
          case atStart => exact ⟨0, by omega, rfl, HG.out, HB.out⟩
          case round =>
            obtain ⟨n, hn, rfl, hG, hB⟩ := hrel
            have HG2 : Hid (Arr wr g 23 (flatE L)) := hG
            have HB2 : Hid (Below W.heap.size W wr) := hB
            clear hG hB HG HB
            by_cases hnn : n < 5
            · have hni : (n : Int) < 5 := by omega
              have HGm : Hid (∀ w, Arr w g 23 (flatE L) → _) := fun w h => HGc.out w m hmn h
              have HGn : Hid (∀ w, Arr w g 23 (flatE L) → _) := fun w h => HGc.out w n hnn h
              have HFm : Hid (EFit (L[m]?.getD EntMath.zero)) := HQm.out m hmn
              have HFn : Hid (EFit (L[n]?.getD EntMath.zero)) := HQm.out n hnn
              generalize L[m]?.getD EntMath.zero = em at HGm HFm
              generalize L[n]?.getD EntMath.zero = en at HGn HFn
              go_upto_region 12 with (fail)
              have HGd : Hid (Arr wr.drew g 23 (flatE L)) := HG2.out
              have HBd : Hid (Below W.heap.size W wr.drew) := HB2.out.drew
              obtain ⟨p0, p1, p2, p3, p4, p5⟩ := HGm.out _ HGd.out
              obtain ⟨q0, q1, q2, q3, q4, q5⟩ := HGn.out _ HGd.out
              refine wp_region_held_drew (S := fun w' => w'.cell? ⟨g, m * 6, none⟩ = some (.string (strN em.feed)) ∧ w'.cell? ⟨g, m * 6 + 1, none⟩ = some (.string (strN em.guid)) ∧ w'.cell? ⟨g, m * 6 + 2, none⟩ = some (.string (strN em.title)) ∧ w'.cell? ⟨g, m * 6 + 3, none⟩ = some (.string (strN em.link)) ∧ w'.cell? ⟨g, m * 6 + 4, none⟩ = some (.string (strN em.body)) ∧ w'.cell? ⟨g, m * 6 + 5, none⟩ = some (.int .i64 em.time) ∧ w'.cell? ⟨g, n * 6, none⟩ = some (.string (strN en.feed)) ∧ w'.cell? ⟨g, n * 6 + 1, none⟩ = some (.string (strN en.guid)) ∧ w'.cell? ⟨g, n * 6 + 2, none⟩ = some (.string (strN en.title)) ∧ w'.cell? ⟨g, n * 6 + 3, none⟩ = some (.string (strN en.link)) ∧ w'.cell? ⟨g, n * 6 + 4, none⟩ = some (.string (strN en.body)) ∧ w'.cell? ⟨g, n * 6 + 5, none⟩ = some (.int .i64 en.time)) (by kernel_rfl) ⟨p0, p1, p2, p3, p4, p5, q0, q1, q2, q3, q4, q5⟩ (fun hS => ?_)
              clear p0 p1 p2 p3 p4 p5 q0 q1 q2 q3 q4 q5 HG2 HB2
              generalize wr.drew = v0 at *
              refine wpAnyH_take (i := 0) (v := ?_) rfl (by kernel_rfl) (by kernel_rfl) (by kernel_rfl) (fun _ _ _ h => h) (Or.inl ⟨by rfl, ?_⟩) hS ?_
              rotate_left 1
              · intro w hSw; (try dsimp only at hSw); go_simp <;> with_reducible rfl
              simp only [List.getElem_toArray, List.getElem_cons_zero, List.getElem_cons_succ, Act.put, List.setIfInBounds_toArray, List.set_cons_zero, List.set_cons_succ]
              refine wpAnyH_take (i := 1) (v := ?_) rfl (by kernel_rfl) (by kernel_rfl) (by kernel_rfl) (fun _ _ _ h => h) (Or.inl ⟨by rfl, ?_⟩) hS ?_
              rotate_left 1
              · intro w hSw; (try dsimp only at hSw); go_simp <;> with_reducible rfl
              simp only [List.getElem_toArray, List.getElem_cons_zero, List.getElem_cons_succ, Act.put, List.setIfInBounds_toArray, List.set_cons_zero, List.set_cons_succ]
              refine wpAnyH_take (i := 2) (v := ?_) rfl (by kernel_rfl) (by kernel_rfl) (by kernel_rfl) (fun _ _ _ h => h) (Or.inl ⟨by rfl, ?_⟩) hS ?_
              rotate_left 1
              · intro w hSw; (try dsimp only at hSw); go_simp <;> with_reducible rfl
              simp only [List.getElem_toArray, List.getElem_cons_zero, List.getElem_cons_succ, Act.put, List.setIfInBounds_toArray, List.set_cons_zero, List.set_cons_succ]
              refine wpAnyH_take (i := 3) (v := ?_) rfl (by kernel_rfl) (by kernel_rfl) (by kernel_rfl) (fun _ _ _ h => h) (Or.inl ⟨by rfl, ?_⟩) hS ?_
              rotate_left 1
              · intro w hSw; (try dsimp only at hSw); go_simp <;> with_reducible rfl
              simp only [List.getElem_toArray, List.getElem_cons_zero, List.getElem_cons_succ, Act.put, List.setIfInBounds_toArray, List.set_cons_zero, List.set_cons_succ]
              refine wpAnyH_take (i := 5) (v := ?_) rfl (by kernel_rfl) (by kernel_rfl) (by kernel_rfl) (fun _ _ _ h => h) (Or.inl ⟨by rfl, ?_⟩) hS ?_
              rotate_left 1
              · intro w hSw; (try dsimp only at hSw); go_simp <;> with_reducible rfl
              simp only [List.getElem_toArray, List.getElem_cons_zero, List.getElem_cons_succ, Act.put, List.setIfInBounds_toArray, List.set_cons_zero, List.set_cons_succ]
              refine wpAnyH_take (i := 6) (v := ?_) rfl (by kernel_rfl) (by kernel_rfl) (by kernel_rfl) (fun _ _ _ h => h) (Or.inl ⟨by rfl, ?_⟩) hS ?_
              rotate_left 1
              · intro w hSw; (try dsimp only at hSw); go_simp <;> with_reducible rfl
              simp only [List.getElem_toArray, List.getElem_cons_zero, List.getElem_cons_succ, Act.put, List.setIfInBounds_toArray, List.set_cons_zero, List.set_cons_succ]
              refine wpAnyH_take (i := 7) (v := ?_) rfl (by kernel_rfl) (by kernel_rfl) (by kernel_rfl) (fun _ _ _ h => h) (Or.inl ⟨by rfl, ?_⟩) hS ?_
              rotate_left 1
              · intro w hSw; (try dsimp only at hSw); go_simp <;> with_reducible rfl
              simp only [List.getElem_toArray, List.getElem_cons_zero, List.getElem_cons_succ, Act.put, List.setIfInBounds_toArray, List.set_cons_zero, List.set_cons_succ]
              refine wpAnyH_take (i := 8) (v := ?_) rfl (by kernel_rfl) (by kernel_rfl) (by kernel_rfl) (fun _ _ _ h => h) (Or.inl ⟨by rfl, ?_⟩) hS ?_
              rotate_left 1
              · intro w hSw; (try dsimp only at hSw); go_simp <;> with_reducible rfl
              simp only [List.getElem_toArray, List.getElem_cons_zero, List.getElem_cons_succ, Act.put, List.setIfInBounds_toArray, List.set_cons_zero, List.set_cons_succ]
              refine wpAnyH_ready (rs := [4]) (by kernel_rfl) (by simp) ?_
              refine AllReadyH.cons rfl (fun K hK => ?_) AllReadyH.nil
              go_simp
              refine Calls.mono (HBy.out em HFm.out _ HBd.out) ?_
              rintro r v1 ⟨x1, rfl, hby, hbx⟩
              have HY1 : Hid (Bytes v1 x1 (EntMath.bytes em)) := hby
              have HGd1 : Hid (Arr v1 g 23 (flatE L)) := Arr.later HGd.out hbx (Arr.lt HGd.out)
              have HBd1 : Hid (Below W.heap.size W v1) := HBd.out.trans (hbx.mono HBd.out.size)
              obtain ⟨p0, p1, p2, p3, p4, p5⟩ := HGm.out _ HGd1.out
              obtain ⟨q0, q1, q2, q3, q4, q5⟩ := HGn.out _ HGd1.out
              refine hK.out _ _ ⟨p0, p1, p2, p3, p4, p5, q0, q1, q2, q3, q4, q5⟩ (fun hS => ?_)
              clear hK K p0 p1 p2 p3 p4 p5 q0 q1 q2 q3 q4 q5 hby
              clear hbx
              refine wpAnyH_ready (rs := [9]) (by kernel_rfl) (by simp) ?_
              refine AllReadyH.cons rfl (fun K hK => ?_) AllReadyH.nil
              go_simp
              refine Calls.mono (HBy.out en HFn.out _ HBd1.out) ?_
              rintro r v2 ⟨x2, rfl, hby, hbx⟩
              have HY2 : Hid (Bytes v2 x2 (EntMath.bytes en)) := hby
              have HGd2 : Hid (Arr v2 g 23 (flatE L)) := Arr.later HGd1.out hbx (Arr.lt HGd1.out)
              have HBd2 : Hid (Below W.heap.size W v2) := HBd1.out.trans (hbx.mono HBd1.out.size)
              obtain ⟨p0, p1, p2, p3, p4, p5⟩ := HGm.out _ HGd2.out
              obtain ⟨q0, q1, q2, q3, q4, q5⟩ := HGn.out _ HGd2.out
              refine hK.out _ _ ⟨p0, p1, p2, p3, p4, p5, q0, q1, q2, q3, q4, q5⟩ (fun hS => ?_)
              clear hK K p0 p1 p2 p3 p4 p5 q0 q1 q2 q3 q4 q5 hby
              have HY3 : Hid (Bytes v2 x1 (EntMath.bytes em)) := bytesLater HY1.out hbx
              clear hbx HY1 HGd HGd1 HBd HBd1
              refine wpAnyH_take (i := 10) (v := ?_) rfl (by kernel_rfl) (by kernel_rfl) (by kernel_rfl) (fun _ _ _ h => h) (Or.inl ⟨by rfl, ?_⟩) hS ?_
              rotate_left 1
              · intro w hSw; (try dsimp only at hSw); go_simp <;> with_reducible rfl
              simp only [List.getElem_toArray, List.getElem_cons_zero, List.getElem_cons_succ, Act.put, List.setIfInBounds_toArray, List.set_cons_zero, List.set_cons_succ]
              refine wpAnyH_take (i := 11) (v := ?_) rfl (by kernel_rfl) (by kernel_rfl) (by kernel_rfl) (fun _ _ _ h => h) (Or.inl ⟨by rfl, ?_⟩) hS ?_
              rotate_left 1
              · intro w hSw; (try dsimp only at hSw); go_simp <;> with_reducible rfl
              simp only [List.getElem_toArray, List.getElem_cons_zero, List.getElem_cons_succ, Act.put, List.setIfInBounds_toArray, List.set_cons_zero, List.set_cons_succ]
              refine wpAnyH_done (by kernel_rfl) ?_ _
              clear hS
              go_wp2_with fail
              have hcs : (EntMath.right em = true ∧ em = en) ∨ ((EntMath.right em = true ∧ ((strOfNums (EntMath.bytes em)).toList == (strOfNums (EntMath.bytes en)).toList) = false) ∧ ¬ em = en) ∨ (EntMath.right em = false ∧ ((strOfNums (EntMath.bytes em)).toList == (strOfNums (EntMath.bytes en)).toList) = true) ∨ (EntMath.right em = false ∧ ((strOfNums (EntMath.bytes em)).toList == (strOfNums (EntMath.bytes en)).toList) = false) := by
                rw [strOf_eq (EntMath.bytes_byte em) (EntMath.bytes_byte en)]
                cases hr : EntMath.right em
                · by_cases hbb : EntMath.bytes em = EntMath.bytes en
                  · right; right; left; exact ⟨rfl, by simp [hbb]⟩
                  · right; right; right; exact ⟨rfl, by simp [hbb]⟩
                · by_cases he : em = en
                  · left; exact ⟨rfl, he⟩
                  · right; left; exact ⟨⟨rfl, by simp; exact fun h => he (EntMath.bytes_inj hr h)⟩, he⟩
              have HIdq : Hid (((strOfNums (EntMath.bytes em)).toList == (strOfNums (EntMath.bytes en)).toList) = true → idN en = idN em) := fun h => by
                rw [strOf_eq (EntMath.bytes_byte em) (EntMath.bytes_byte en)] at h
                exact (idN_of_bytes (by simpa using h)).symm
              have HEc : Hid _ := ent_cases em en HFm.out HFn.out
              rcases hcs with ⟨hr, rfl⟩ | ⟨⟨hr, hss⟩, hmne⟩ | ⟨hr, hss⟩ | ⟨hr, hss⟩
              · have hss : ((strOfNums (EntMath.bytes em)).toList == (strOfNums (EntMath.bytes em)).toList) = true := by simp
                have HRm : Hid (∀ u : Grown1 v2, _) := fun u => HRi.out em HFm.out u.w (HBd2.out.trans (u.below.mono HBd2.out.size))
                rw [hr] at HRm
                have hs1 := fun u : Grown1 v2 => bytesString (bytesLater HY3.out u.below)
                have hs2 := fun u : Grown1 v2 => bytesString (bytesLater HY2.out u.below)
                obtain ⟨p0, p1, p2, p3, p4, p5⟩ := HGm.out _ HGd2.out
                obtain ⟨q0, q1, q2, q3, q4, q5⟩ := HGn.out _ HGd2.out
                have hne : Nonempty (Grown1 v2) := ⟨⟨v2, Below.refl _ _⟩⟩
                have p0' := fun u : Grown1 v2 => grown1_cell p0 u
                have p1' := fun u : Grown1 v2 => grown1_cell p1 u
                have p2' := fun u : Grown1 v2 => grown1_cell p2 u
                have p3' := fun u : Grown1 v2 => grown1_cell p3 u
                have p4' := fun u : Grown1 v2 => grown1_cell p4 u
                have p5' := fun u : Grown1 v2 => grown1_cell p5 u
                have q0' := fun u : Grown1 v2 => grown1_cell q0 u
                have q1' := fun u : Grown1 v2 => grown1_cell q1 u
                have q2' := fun u : Grown1 v2 => grown1_cell q2 u
                have q3' := fun u : Grown1 v2 => grown1_cell q3 u
                have q4' := fun u : Grown1 v2 => grown1_cell q4 u
                have q5' := fun u : Grown1 v2 => grown1_cell q5 u
                clear p0 p1 p2 p3 p4 p5 q0 q1 q2 q3 q4 q5
                (try simp only [Act.put])
                refine wp_region_grow (by kernel_rfl) (by kernel_rfl) ?_
                repeat (go_big_quiet_step (first | with_reducible exact grown1_call _ (HRm.out _) | fail))
                refine wpQuiet_nil ?_
                intro _ hw'
                obtain ⟨n1, hw''⟩ := hw'
                subst hw''
                have HG7 : Hid (Arr n1.w g 23 (flatE L)) := Arr.later HGd2.out n1.below (Arr.lt HGd2.out)
                have HB7 : Hid (Below W.heap.size W n1.w) := HBd2.out.trans (n1.below.mono HBd2.out.size)
                have HY7 : Hid (Bytes n1.w x1 (EntMath.bytes em)) := bytesLater HY3.out n1.below
                have HZ7 : Hid (Bytes n1.w x2 (EntMath.bytes em)) := bytesLater HY2.out n1.below
                clear HGd2 HBd2 HY3 HY2 HRm hs1 hs2 p0' p1' p2' p3' p4' p5' q0' q1' q2' q3' q4' q5'
                generalize n1.w = u7 at *
                clear hne n1
                go_wp2_with fail
                have hs1 := fun u : Grown1 u7 => bytesString (bytesLater HY7.out u.below)
                have hs2 := fun u : Grown1 u7 => bytesString (bytesLater HZ7.out u.below)
                obtain ⟨p0, p1, p2, p3, p4, p5⟩ := HGm.out _ HG7.out
                obtain ⟨q0, q1, q2, q3, q4, q5⟩ := HGn.out _ HG7.out
                have hne : Nonempty (Grown1 u7) := ⟨⟨u7, Below.refl _ _⟩⟩
                have p0' := fun u : Grown1 u7 => grown1_cell p0 u
                have p1' := fun u : Grown1 u7 => grown1_cell p1 u
                have p2' := fun u : Grown1 u7 => grown1_cell p2 u
                have p3' := fun u : Grown1 u7 => grown1_cell p3 u
                have p4' := fun u : Grown1 u7 => grown1_cell p4 u
                have p5' := fun u : Grown1 u7 => grown1_cell p5 u
                have q0' := fun u : Grown1 u7 => grown1_cell q0 u
                have q1' := fun u : Grown1 u7 => grown1_cell q1 u
                have q2' := fun u : Grown1 u7 => grown1_cell q2 u
                have q3' := fun u : Grown1 u7 => grown1_cell q3 u
                have q4' := fun u : Grown1 u7 => grown1_cell q4 u
                have q5' := fun u : Grown1 u7 => grown1_cell q5 u
                clear p0 p1 p2 p3 p4 p5 q0 q1 q2 q3 q4 q5
                have HIm : Hid (∀ u : Grown1 u7, _) := fun u => HId.out em HFm.out u.w (HB7.out.trans (u.below.mono HB7.out.size))
                have heq : ∀ w, (Op.equalIn 10000 33 (.agg (u8v (idN em)).toArray) (.agg (u8v (idN em)).toArray)).run Tryz.prog w = .ok true w := fun w => eq_same _ (idN_len em) w
                (try simp only [Act.put])
                refine wp_region_grow (by kernel_rfl) (by kernel_rfl) ?_
                repeat (go_big_quiet_step (first | with_reducible exact grown1_call _ (HIm.out _) | fail))
                refine wpQuiet_nil ?_
                intro _ hw'
                obtain ⟨n1, hw''⟩ := hw'
                subst hw''
                have HG8 : Hid (Arr n1.w g 23 (flatE L)) := Arr.later HG7.out n1.below (Arr.lt HG7.out)
                have HB8 : Hid (Below W.heap.size W n1.w) := HB7.out.trans (n1.below.mono HB7.out.size)
                have HY8 : Hid (Bytes n1.w x1 (EntMath.bytes em)) := bytesLater HY7.out n1.below
                have HZ8 : Hid (Bytes n1.w x2 (EntMath.bytes em)) := bytesLater HZ7.out n1.below
                clear HG7 HB7 HY7 HZ7 HIm hs1 hs2 p0' p1' p2' p3' p4' p5' q0' q1' q2' q3' q4' q5'
                generalize n1.w = u8 at *
                clear hne n1
                go_wp2
                go_roundw
                case rel => exact ⟨n + 1, by omega, by go_num, HG8.out, HB8.out⟩
                case measure => simp [intOf]; omega
              · rcases HEc.out with h | ⟨_, hc⟩
                · exact absurd h hmne
                rcases hc with d1 | ⟨d1, d2⟩ | ⟨d1, d2, d3⟩ | ⟨d1, d2, d3, d4⟩ | ⟨d1, d2, d3, d4, d5⟩ | ⟨d1, d2, d3, d4, d5, d6⟩
                all_goals
                  have HRm : Hid (∀ u : Grown1 v2, _) := fun u => HRi.out em HFm.out u.w (HBd2.out.trans (u.below.mono HBd2.out.size))
                  rw [hr] at HRm
                  have hs1 := fun u : Grown1 v2 => bytesString (bytesLater HY3.out u.below)
                  have hs2 := fun u : Grown1 v2 => bytesString (bytesLater HY2.out u.below)
                  obtain ⟨p0, p1, p2, p3, p4, p5⟩ := HGm.out _ HGd2.out
                  obtain ⟨q0, q1, q2, q3, q4, q5⟩ := HGn.out _ HGd2.out
                  have hne : Nonempty (Grown1 v2) := ⟨⟨v2, Below.refl _ _⟩⟩
                  have p0' := fun u : Grown1 v2 => grown1_cell p0 u
                  have p1' := fun u : Grown1 v2 => grown1_cell p1 u
                  have p2' := fun u : Grown1 v2 => grown1_cell p2 u
                  have p3' := fun u : Grown1 v2 => grown1_cell p3 u
                  have p4' := fun u : Grown1 v2 => grown1_cell p4 u
                  have p5' := fun u : Grown1 v2 => grown1_cell p5 u
                  have q0' := fun u : Grown1 v2 => grown1_cell q0 u
                  have q1' := fun u : Grown1 v2 => grown1_cell q1 u
                  have q2' := fun u : Grown1 v2 => grown1_cell q2 u
                  have q3' := fun u : Grown1 v2 => grown1_cell q3 u
                  have q4' := fun u : Grown1 v2 => grown1_cell q4 u
                  have q5' := fun u : Grown1 v2 => grown1_cell q5 u
                  clear p0 p1 p2 p3 p4 p5 q0 q1 q2 q3 q4 q5
                  (try simp only [Act.put])
                  refine wp_region_grow (by kernel_rfl) (by kernel_rfl) ?_
                  repeat (go_big_quiet_step (first | with_reducible exact grown1_call _ (HRm.out _) | fail))
                  refine wpQuiet_nil ?_
                  intro _ hw'
                  obtain ⟨n1, hw''⟩ := hw'
                  subst hw''
                  have HG7 : Hid (Arr n1.w g 23 (flatE L)) := Arr.later HGd2.out n1.below (Arr.lt HGd2.out)
                  have HB7 : Hid (Below W.heap.size W n1.w) := HBd2.out.trans (n1.below.mono HBd2.out.size)
                  have HY7 : Hid (Bytes n1.w x1 (EntMath.bytes em)) := bytesLater HY3.out n1.below
                  have HZ7 : Hid (Bytes n1.w x2 (EntMath.bytes en)) := bytesLater HY2.out n1.below
                  clear HGd2 HBd2 HY3 HY2 HRm hs1 hs2 p0' p1' p2' p3' p4' p5' q0' q1' q2' q3' q4' q5'
                  generalize n1.w = u7 at *
                  clear hne n1
                  go_wp2_with fail
                  have hs1 := fun u : Grown1 u7 => bytesString (bytesLater HY7.out u.below)
                  have hs2 := fun u : Grown1 u7 => bytesString (bytesLater HZ7.out u.below)
                  obtain ⟨p0, p1, p2, p3, p4, p5⟩ := HGm.out _ HG7.out
                  obtain ⟨q0, q1, q2, q3, q4, q5⟩ := HGn.out _ HG7.out
                  have hne : Nonempty (Grown1 u7) := ⟨⟨u7, Below.refl _ _⟩⟩
                  have p0' := fun u : Grown1 u7 => grown1_cell p0 u
                  have p1' := fun u : Grown1 u7 => grown1_cell p1 u
                  have p2' := fun u : Grown1 u7 => grown1_cell p2 u
                  have p3' := fun u : Grown1 u7 => grown1_cell p3 u
                  have p4' := fun u : Grown1 u7 => grown1_cell p4 u
                  have p5' := fun u : Grown1 u7 => grown1_cell p5 u
                  have q0' := fun u : Grown1 u7 => grown1_cell q0 u
                  have q1' := fun u : Grown1 u7 => grown1_cell q1 u
                  have q2' := fun u : Grown1 u7 => grown1_cell q2 u
                  have q3' := fun u : Grown1 u7 => grown1_cell q3 u
                  have q4' := fun u : Grown1 u7 => grown1_cell q4 u
                  have q5' := fun u : Grown1 u7 => grown1_cell q5 u
                  clear p0 p1 p2 p3 p4 p5 q0 q1 q2 q3 q4 q5
                  (try simp only [Act.put])
                  refine wp_region_grow (by kernel_rfl) (by kernel_rfl) ?_
                  repeat (go_big_quiet_step (first | fail))
                  refine wpQuiet_nil ?_
                  intro _ hw'
                  obtain ⟨n1, hw''⟩ := hw'
                  subst hw''
                  have HG8 : Hid (Arr n1.w g 23 (flatE L)) := Arr.later HG7.out n1.below (Arr.lt HG7.out)
                  have HB8 : Hid (Below W.heap.size W n1.w) := HB7.out.trans (n1.below.mono HB7.out.size)
                  have HY8 : Hid (Bytes n1.w x1 (EntMath.bytes em)) := bytesLater HY7.out n1.below
                  have HZ8 : Hid (Bytes n1.w x2 (EntMath.bytes en)) := bytesLater HZ7.out n1.below
                  clear HG7 HB7 HY7 HZ7  hs1 hs2 p0' p1' p2' p3' p4' p5' q0' q1' q2' q3' q4' q5'
                  generalize n1.w = u8 at *
                  clear hne n1
                  go_wp2
                  go_roundw
                  case rel => exact ⟨n + 1, by omega, by go_num, HG8.out, HB8.out⟩
                  case measure => simp [intOf]; omega
              · have HRm : Hid (∀ u : Grown1 v2, _) := fun u => HRi.out em HFm.out u.w (HBd2.out.trans (u.below.mono HBd2.out.size))
                rw [hr] at HRm
                have hs1 := fun u : Grown1 v2 => bytesString (bytesLater HY3.out u.below)
                have hs2 := fun u : Grown1 v2 => bytesString (bytesLater HY2.out u.below)
                obtain ⟨p0, p1, p2, p3, p4, p5⟩ := HGm.out _ HGd2.out
                obtain ⟨q0, q1, q2, q3, q4, q5⟩ := HGn.out _ HGd2.out
                have hne : Nonempty (Grown1 v2) := ⟨⟨v2, Below.refl _ _⟩⟩
                have p0' := fun u : Grown1 v2 => grown1_cell p0 u
                have p1' := fun u : Grown1 v2 => grown1_cell p1 u
                have p2' := fun u : Grown1 v2 => grown1_cell p2 u
                have p3' := fun u : Grown1 v2 => grown1_cell p3 u
                have p4' := fun u : Grown1 v2 => grown1_cell p4 u
                have p5' := fun u : Grown1 v2 => grown1_cell p5 u
                have q0' := fun u : Grown1 v2 => grown1_cell q0 u
                have q1' := fun u : Grown1 v2 => grown1_cell q1 u
                have q2' := fun u : Grown1 v2 => grown1_cell q2 u
                have q3' := fun u : Grown1 v2 => grown1_cell q3 u
                have q4' := fun u : Grown1 v2 => grown1_cell q4 u
                have q5' := fun u : Grown1 v2 => grown1_cell q5 u
                clear p0 p1 p2 p3 p4 p5 q0 q1 q2 q3 q4 q5
                (try simp only [Act.put])
                refine wp_region_grow (by kernel_rfl) (by kernel_rfl) ?_
                repeat (go_big_quiet_step (first | with_reducible exact grown1_call _ (HRm.out _) | fail))
                refine wpQuiet_nil ?_
                intro _ hw'
                obtain ⟨n1, hw''⟩ := hw'
                subst hw''
                have HG7 : Hid (Arr n1.w g 23 (flatE L)) := Arr.later HGd2.out n1.below (Arr.lt HGd2.out)
                have HB7 : Hid (Below W.heap.size W n1.w) := HBd2.out.trans (n1.below.mono HBd2.out.size)
                have HY7 : Hid (Bytes n1.w x1 (EntMath.bytes em)) := bytesLater HY3.out n1.below
                have HZ7 : Hid (Bytes n1.w x2 (EntMath.bytes en)) := bytesLater HY2.out n1.below
                clear HGd2 HBd2 HY3 HY2 HRm hs1 hs2 p0' p1' p2' p3' p4' p5' q0' q1' q2' q3' q4' q5'
                generalize n1.w = u7 at *
                clear hne n1
                go_wp2_with fail
                have hs1 := fun u : Grown1 u7 => bytesString (bytesLater HY7.out u.below)
                have hs2 := fun u : Grown1 u7 => bytesString (bytesLater HZ7.out u.below)
                obtain ⟨p0, p1, p2, p3, p4, p5⟩ := HGm.out _ HG7.out
                obtain ⟨q0, q1, q2, q3, q4, q5⟩ := HGn.out _ HG7.out
                have hne : Nonempty (Grown1 u7) := ⟨⟨u7, Below.refl _ _⟩⟩
                have p0' := fun u : Grown1 u7 => grown1_cell p0 u
                have p1' := fun u : Grown1 u7 => grown1_cell p1 u
                have p2' := fun u : Grown1 u7 => grown1_cell p2 u
                have p3' := fun u : Grown1 u7 => grown1_cell p3 u
                have p4' := fun u : Grown1 u7 => grown1_cell p4 u
                have p5' := fun u : Grown1 u7 => grown1_cell p5 u
                have q0' := fun u : Grown1 u7 => grown1_cell q0 u
                have q1' := fun u : Grown1 u7 => grown1_cell q1 u
                have q2' := fun u : Grown1 u7 => grown1_cell q2 u
                have q3' := fun u : Grown1 u7 => grown1_cell q3 u
                have q4' := fun u : Grown1 u7 => grown1_cell q4 u
                have q5' := fun u : Grown1 u7 => grown1_cell q5 u
                clear p0 p1 p2 p3 p4 p5 q0 q1 q2 q3 q4 q5
                have HIm : Hid (∀ u : Grown1 u7, _) := fun u => HId.out em HFm.out u.w (HB7.out.trans (u.below.mono HB7.out.size))
                have HIn : Hid (∀ u : Grown1 u7, _) := fun u => HId.out en HFn.out u.w (HB7.out.trans (u.below.mono HB7.out.size))
                rw [HIdq.out hss] at HIn
                have heq : ∀ w, (Op.equalIn 10000 33 (.agg (u8v (idN em)).toArray) (.agg (u8v (idN em)).toArray)).run Tryz.prog w = .ok true w := fun w => eq_same _ (idN_len em) w
                (try simp only [Act.put])
                refine wp_region_grow (by kernel_rfl) (by kernel_rfl) ?_
                repeat (go_big_quiet_step (first | with_reducible exact grown1_call _ (HIm.out _) | with_reducible exact grown1_call _ (HIn.out _) | fail))
                refine wpQuiet_nil ?_
                intro _ hw'
                obtain ⟨n1, hw''⟩ := hw'
                subst hw''
                have HG8 : Hid (Arr n1.w g 23 (flatE L)) := Arr.later HG7.out n1.below (Arr.lt HG7.out)
                have HB8 : Hid (Below W.heap.size W n1.w) := HB7.out.trans (n1.below.mono HB7.out.size)
                have HY8 : Hid (Bytes n1.w x1 (EntMath.bytes em)) := bytesLater HY7.out n1.below
                have HZ8 : Hid (Bytes n1.w x2 (EntMath.bytes en)) := bytesLater HZ7.out n1.below
                clear HG7 HB7 HY7 HZ7 HIm HIn hs1 hs2 p0' p1' p2' p3' p4' p5' q0' q1' q2' q3' q4' q5'
                generalize n1.w = u8 at *
                clear hne n1
                go_wp2
                go_roundw
                case rel => exact ⟨n + 1, by omega, by go_num, HG8.out, HB8.out⟩
                case measure => simp [intOf]; omega
              · have HRm : Hid (∀ u : Grown1 v2, _) := fun u => HRi.out em HFm.out u.w (HBd2.out.trans (u.below.mono HBd2.out.size))
                rw [hr] at HRm
                have hs1 := fun u : Grown1 v2 => bytesString (bytesLater HY3.out u.below)
                have hs2 := fun u : Grown1 v2 => bytesString (bytesLater HY2.out u.below)
                obtain ⟨p0, p1, p2, p3, p4, p5⟩ := HGm.out _ HGd2.out
                obtain ⟨q0, q1, q2, q3, q4, q5⟩ := HGn.out _ HGd2.out
                have hne : Nonempty (Grown1 v2) := ⟨⟨v2, Below.refl _ _⟩⟩
                have p0' := fun u : Grown1 v2 => grown1_cell p0 u
                have p1' := fun u : Grown1 v2 => grown1_cell p1 u
                have p2' := fun u : Grown1 v2 => grown1_cell p2 u
                have p3' := fun u : Grown1 v2 => grown1_cell p3 u
                have p4' := fun u : Grown1 v2 => grown1_cell p4 u
                have p5' := fun u : Grown1 v2 => grown1_cell p5 u
                have q0' := fun u : Grown1 v2 => grown1_cell q0 u
                have q1' := fun u : Grown1 v2 => grown1_cell q1 u
                have q2' := fun u : Grown1 v2 => grown1_cell q2 u
                have q3' := fun u : Grown1 v2 => grown1_cell q3 u
                have q4' := fun u : Grown1 v2 => grown1_cell q4 u
                have q5' := fun u : Grown1 v2 => grown1_cell q5 u
                clear p0 p1 p2 p3 p4 p5 q0 q1 q2 q3 q4 q5
                (try simp only [Act.put])
                refine wp_region_grow (by kernel_rfl) (by kernel_rfl) ?_
                repeat (go_big_quiet_step (first | with_reducible exact grown1_call _ (HRm.out _) | fail))
                refine wpQuiet_nil ?_
                intro _ hw'
                obtain ⟨n1, hw''⟩ := hw'
                subst hw''
                have HG7 : Hid (Arr n1.w g 23 (flatE L)) := Arr.later HGd2.out n1.below (Arr.lt HGd2.out)
                have HB7 : Hid (Below W.heap.size W n1.w) := HBd2.out.trans (n1.below.mono HBd2.out.size)
                have HY7 : Hid (Bytes n1.w x1 (EntMath.bytes em)) := bytesLater HY3.out n1.below
                have HZ7 : Hid (Bytes n1.w x2 (EntMath.bytes en)) := bytesLater HY2.out n1.below
                clear HGd2 HBd2 HY3 HY2 HRm hs1 hs2 p0' p1' p2' p3' p4' p5' q0' q1' q2' q3' q4' q5'
                generalize n1.w = u7 at *
                clear hne n1
                go_wp2_with fail
                have hs1 := fun u : Grown1 u7 => bytesString (bytesLater HY7.out u.below)
                have hs2 := fun u : Grown1 u7 => bytesString (bytesLater HZ7.out u.below)
                obtain ⟨p0, p1, p2, p3, p4, p5⟩ := HGm.out _ HG7.out
                obtain ⟨q0, q1, q2, q3, q4, q5⟩ := HGn.out _ HG7.out
                have hne : Nonempty (Grown1 u7) := ⟨⟨u7, Below.refl _ _⟩⟩
                have p0' := fun u : Grown1 u7 => grown1_cell p0 u
                have p1' := fun u : Grown1 u7 => grown1_cell p1 u
                have p2' := fun u : Grown1 u7 => grown1_cell p2 u
                have p3' := fun u : Grown1 u7 => grown1_cell p3 u
                have p4' := fun u : Grown1 u7 => grown1_cell p4 u
                have p5' := fun u : Grown1 u7 => grown1_cell p5 u
                have q0' := fun u : Grown1 u7 => grown1_cell q0 u
                have q1' := fun u : Grown1 u7 => grown1_cell q1 u
                have q2' := fun u : Grown1 u7 => grown1_cell q2 u
                have q3' := fun u : Grown1 u7 => grown1_cell q3 u
                have q4' := fun u : Grown1 u7 => grown1_cell q4 u
                have q5' := fun u : Grown1 u7 => grown1_cell q5 u
                clear p0 p1 p2 p3 p4 p5 q0 q1 q2 q3 q4 q5
                (try simp only [Act.put])
                refine wp_region_grow (by kernel_rfl) (by kernel_rfl) ?_
                repeat (go_big_quiet_step (first | fail))
                refine wpQuiet_nil ?_
                intro _ hw'
                obtain ⟨n1, hw''⟩ := hw'
                subst hw''
                have HG8 : Hid (Arr n1.w g 23 (flatE L)) := Arr.later HG7.out n1.below (Arr.lt HG7.out)
                have HB8 : Hid (Below W.heap.size W n1.w) := HB7.out.trans (n1.below.mono HB7.out.size)
                have HY8 : Hid (Bytes n1.w x1 (EntMath.bytes em)) := bytesLater HY7.out n1.below
                have HZ8 : Hid (Bytes n1.w x2 (EntMath.bytes en)) := bytesLater HZ7.out n1.below
                clear HG7 HB7 HY7 HZ7  hs1 hs2 p0' p1' p2' p3' p4' p5' q0' q1' q2' q3' q4' q5'
                generalize n1.w = u8 at *
                clear hne n1
                go_wp2
                go_roundw
                case rel => exact ⟨n + 1, by omega, by go_num, HG8.out, HB8.out⟩
                case measure => simp [intOf]; omega
            · have hnk : n = 5 := by omega
              have hdk : decide ((n : Int) < 5) = false := by simp; omega
              go_wp2
              go_roundw
              case rel => exact ⟨m + 1, by omega, by go_num, HG2.out, HB2.out⟩
              case measure => simp [intOf]; omega
        · have hmk : m = 5 := by omega
          have hdk : decide ((m : Int) < 5) = false := by simp; omega
          go_wp2
          go_ret
          exact ⟨rfl, by first | exact HB.out | (rw [← hga]; exact HB.out)⟩
end Go.Proofs.YteockpllnhjooaaGreatDoor
