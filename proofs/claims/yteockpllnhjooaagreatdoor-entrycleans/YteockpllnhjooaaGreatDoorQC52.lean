/-
  L6Cleans.
-/
import Derived.Test.YteockpllnhjooaaGreatDoorQC49
import Derived.Test.YteockpllnhjooaaGreatDoorQC50
import Derived.Test.YteockpllnhjooaaGreatDoorQC39
import Derived.Test.YteockpllnhjooaaGreatDoorQC41
import Derived.Test.YteockpllnhjooaaGreatDoorQC51
import Derived.Test.YteockpllnhjooaaGreatDoorQC47
import Derived.Deep.Cut
namespace Go.Proofs.YteockpllnhjooaaGreatDoor
open Go.RowKit NumMath
open EntMath (E)
set_option maxRecDepth 100000
set_option linter.unusedVariables false
set_option linter.unusedSimpArgs false
attribute [-simp] Tryz.isAgg35 Tryz.zeroValue35

theorem field_entry (v : Ev) (w : World) : (Instr.field 35 (.agg (evL v).toArray) 6).run Tryz.prog w = .ok (entV v.entry) w := by
  simp [Instr.field, Sem.run_bind, Tryz.underlying35, part, asAgg, sizeOf, typeInfo, Result.andThen]
  rfl

set_option maxHeartbeats 16000000 in
theorem entryCleans_walk (e : E) (n1 n2 n3 n4 : Int) (s5 : ByteArray) (n6 : Int) (W : World) (ht : Env W) (hfa : InFit e)
    (w1 : (Lit.int .u8 n1).wf = true) (w2 : (Lit.int .u8 n2).wf = true) (w3 : (Lit.int .u16 n3).wf = true) (w4 : (Lit.int .i64 n4).wf = true) (hs5 : s5.size ≤ 140737488355328) (w6 : (Lit.int .u8 n6).wf = true) :
    Calls Tryz.prog 3 #[entV e, .int .u8 n1, .int .u8 n2, .int .u16 n3, .int .i64 n4, .string s5, .int .u8 n6] W fun r W' => r = .returned (.bool true) ∧ Below W.heap.size W W' := by
  obtain ⟨s, hsb, rfl⟩ := any_str s5
  have hb1 := bounds_u8 w1
  have hb2 := bounds_u8 w2
  have hb3 := bounds_u16 w3
  have hb4 := bounds_i64 w4
  have hb6 := bounds_u8 w6
  obtain ⟨k, rfl⟩ : ∃ n : Nat, n1 = (n : Int) := ⟨n1.toNat, by omega⟩
  obtain ⟨j, rfl⟩ : ∃ n : Nat, n2 = (n : Int) := ⟨n2.toNat, by omega⟩
  obtain ⟨t, rfl⟩ : ∃ n : Nat, n3 = (n : Int) := ⟨n3.toNat, by omega⟩
  obtain ⟨wh, rfl⟩ : ∃ n : Nat, n6 = (n : Int) := ⟨n6.toNat, by omega⟩
  have HT0 : Hid (Env W) := ht
  have hsz := strN_size s
  have HKn : Hid (∀ w, Below W.heap.size W w → _) := fun w hB => known_any w (ht.later hB)
  have HSa : Hid (∀ w, _) := fun w => smallEnt_any e w
  have HSe : Hid (∀ w, _) := fun w => seatEntry_any k j t w (by omega) (by omega) (by omega)
  have hfs := EFit.of (EntMath.right_fit (seatE_right k j t))
  have HQ : Hid (smallE e = true → EFit e) := fun ha => small_efit hfa ha
  have HCl : Hid (∀ e, EFit e → ∀ w, Below W.heap.size W w → _) := fun e hF w hB => entClean_any e w (ht.later hB).max hF
  have HRc : Hid (∀ e, EFit e → ∀ w, _) := fun e hF w => refEntClean_any e w hF
  have HRi : Hid (∀ e, EFit e → ∀ w, Below W.heap.size W w → _) := fun e hF w hB => entRight_any e w (ht.later hB).max hF
  have HRr : Hid (∀ e, EFit e → ∀ w, _) := fun e hF w => refEntRight_any e w hF
  generalize seatE k j t = s1 at *
  obtain ⟨q, hq⟩ : ∃ q : Nat, q = wh % 6 := ⟨_, rfl⟩
  have r1 : (wh : Int) % 6 = (q : Int) := by omega
  have r2 : IntKind.u8.wrap (10 + (q : Int)) = ((10 + q : Nat) : Int) := by rw [IntKind.wrap_u8]; omega
  have HBe : Hid (∀ w, _) := fun w => bentE_any (evZ s1) (10 + q) n4 s w (by simp [evZ]) rfl (by omega) (by omega)
  have HBu : Hid (Tryz.prog.built 35 [(6, entV s1)] = some (evL (evZ s1)).toArray) := builtEv s1
  have HFx0 : Hid (s.length ≤ 900 → EFit (bentE (10 + q) s1 n4 s)) := fun hl => bentE_fit hfs hsb hl hb4
  have HFs : Hid (EFit s1) := hfs
  obtain ⟨x, hx⟩ : ∃ x, x = bentE (10 + q) s1 n4 s := ⟨_, rfl⟩
  have ex : (evZ s1).entry = s1 := rfl
  rw [ex, ← hx] at HBe
  rw [← hx] at HFx0
  have hfld : ∀ w, (Instr.field 35 (.agg (evL { evZ s1 with entry := x }).toArray) 6).run Tryz.prog w = .ok (entV x) w := fun w => field_entry _ w
  generalize (evL { evZ s1 with entry := x }).toArray = N at HBe hfld
  generalize (evL (evZ s1)).toArray = N1 at HBe HBu
  generalize 10 + q = q10 at HBe r2
  obtain ⟨ns, hns⟩ : ∃ n, n = s.length := ⟨_, rfl⟩
  rw [← hns] at hsz HFx0
  clear hfa ht w1 w2 w3 w4 w6 hb1 hb2 hb3 hb4 hb6 hfs hs5 hx hq ex hsb hns
  have HA0 : Hid (EntAt (W.alloc (.cells #[.string (strN e.feed), .string (strN e.guid), .string (strN e.title), .string (strN e.link), .string (strN e.body), .int .i64 e.time] 23)) W.heap.size e) := EntAt.new W e
  have HL0 : Hid (Below W.heap.size W (W.alloc (.cells #[.string (strN e.feed), .string (strN e.guid), .string (strN e.title), .string (strN e.link), .string (strN e.body), .int .i64 e.time] 23))) := (Below.refl _ _).alloc (Nat.le_refl _) _
  unfold entV at HSa HSe HCl HRc HRi HRr hfld HBu ⊢
  go_enter Tryz.func3, Tryz.ntmps3
  go_upto_region 1 with (fail)
  generalize W.alloc (.cells #[.string (strN e.feed), .string (strN e.guid), .string (strN e.title), .string (strN e.link), .string (strN e.body), .int .i64 e.time] 23) = w0 at *
  generalize hga : W.heap.size = ga at HA0 ⊢
  go_wp2_with fail
  refine Calls.mono (HKn.out _ HL0.out) ?_
  rintro r w21 ⟨rfl, hb21⟩
  have HA22 : Hid (EntAt w21 ga e) := HA0.out.later hb21 HA0.out.lt
  have HB23 : Hid (Below W.heap.size W w21) := HL0.out.trans (hb21.mono HL0.out.size)
  clear HA0 HL0 hb21
  obtain ⟨A_0, A_1, A_2, A_3, A_4, A_5⟩ := HA22.out.cells
  go_wp2_with fail
  refine Calls.mono (HSa.out _) ?_
  rintro r w24 ⟨rfl, hb24⟩
  have HA25 : Hid (EntAt w24 ga e) := HA22.out.later hb24 HA22.out.lt
  have HB26 : Hid (Below W.heap.size W w24) := HB23.out.trans (hb24.mono HB23.out.size)
  clear HA22 HB23 hb24
  clear A_0 A_1 A_2 A_3 A_4 A_5
  cases hsa : smallE e with
  | false =>
    go_wp2
    go_ret
    exact ⟨rfl, by first | exact HB26.out | (rw [← hga]; exact HB26.out)⟩
  | true =>
    have HFe : Hid (EFit e) := HQ.out hsa
    clear HSa HQ hsa HKn
    by_cases hl4 : 900 < ns
    · have hl4i : (900 : Int) < (ns : Int) := by omega
      go_wp2
      go_ret
      exact ⟨rfl, by first | exact HB26.out | (rw [← hga]; exact HB26.out)⟩
    have hl4i : (ns : Int) ≤ 900 := by omega
    have HFx : Hid (EFit x) := HFx0.out (by omega)
    clear HFx0 hl4
    go_wp2_with fail
    refine Calls.mono (HSe.out _) ?_
    rintro r w27 ⟨rfl, hb27⟩
    have HA28 : Hid (EntAt w27 ga e) := HA25.out.later hb27 HA25.out.lt
    have HB29 : Hid (Below W.heap.size W w27) := HB26.out.trans (hb27.mono HB26.out.size)
    clear HA25 HB26 hb27
    go_wp2_with (refine wpList_build_is rfl 35 #[(6, .tmp 37)] rfl [(6, .agg #[.string (strN s1.feed), .string (strN s1.guid), .string (strN s1.title), .string (strN s1.link), .string (strN s1.body), .int .i64 s1.time])] (by simp; rfl) N1 HBu.out ?_)
    refine Calls.mono (HBe.out _) ?_
    rintro r w30 ⟨rfl, hb30⟩
    have HA31 : Hid (EntAt w30 ga e) := HA28.out.later hb30 HA28.out.lt
    have HB32 : Hid (Below W.heap.size W w30) := HB29.out.trans (hb30.mono HB29.out.size)
    clear HA28 HB29 hb30
    clear HBe HBu
    have HX33 : Hid (EntAt (w30.alloc (.cells #[.string ⟨#[]⟩, .string ⟨#[]⟩, .string ⟨#[]⟩, .string ⟨#[]⟩, .string ⟨#[]⟩, .int .i64 0] 23)) w30.heap.size EntMath.zero) := EntAt.new w30 EntMath.zero
    have hlt_gx_A : ga < w30.heap.size := HA31.out.lt
    have hle_gx : W.heap.size ≤ w30.heap.size := HB32.out.size
    have HA34 : Hid (EntAt ((w30.alloc (.cells #[.string ⟨#[]⟩, .string ⟨#[]⟩, .string ⟨#[]⟩, .string ⟨#[]⟩, .string ⟨#[]⟩, .int .i64 0] 23)).setRow w30.heap.size (entL x).toArray) ga e) := EntAt.row_other (HA31.out.alloc _) _ (by omega)
    have HB35 : Hid (Below W.heap.size W ((w30.alloc (.cells #[.string ⟨#[]⟩, .string ⟨#[]⟩, .string ⟨#[]⟩, .string ⟨#[]⟩, .string ⟨#[]⟩, .int .i64 0] 23)).setRow w30.heap.size (entL x).toArray)) := below_setRow (HB32.out.alloc HB32.out.size _) (by omega) _
    have HX36 : Hid (EntAt ((w30.alloc (.cells #[.string ⟨#[]⟩, .string ⟨#[]⟩, .string ⟨#[]⟩, .string ⟨#[]⟩, .string ⟨#[]⟩, .int .i64 0] 23)).setRow w30.heap.size (entL x).toArray) w30.heap.size x) := EntAt.row HX33.out
    go_upto_region 6 with (first | refine wpList_store_ent rfl (.tmp 15) (.tmp 45) rfl w30.heap.size EntMath.zero x rfl rfl HX33.out ?_)
    clear HA31 HB32 HX33
    generalize (w30.alloc (.cells #[.string ⟨#[]⟩, .string ⟨#[]⟩, .string ⟨#[]⟩, .string ⟨#[]⟩, .string ⟨#[]⟩, .int .i64 0] 23)).setRow w30.heap.size (entL x).toArray = w37 at *
    generalize w30.heap.size = gx at *
    clear hfld
    have HA38 : Hid (EntAt w37.drew ga e) := ⟨Arr.drew HA34.out.arr⟩
    have HX39 : Hid (EntAt w37.drew gx x) := ⟨Arr.drew HX36.out.arr⟩
    have HB40 : Hid (Below W.heap.size W w37.drew) := HB35.out.drew
    clear HA34 HX36 HB35
    obtain ⟨A_0, A_1, A_2, A_3, A_4, A_5⟩ := HA38.out.cells
    obtain ⟨X_0, X_1, X_2, X_3, X_4, X_5⟩ := HX39.out.cells
    refine wp_region_held_drew (S := fun w' => w'.cell? ⟨ga, 0, none⟩ = some (.string (strN e.feed)) ∧ w'.cell? ⟨ga, 1, none⟩ = some (.string (strN e.guid)) ∧ w'.cell? ⟨ga, 2, none⟩ = some (.string (strN e.title)) ∧ w'.cell? ⟨ga, 3, none⟩ = some (.string (strN e.link)) ∧ w'.cell? ⟨ga, 4, none⟩ = some (.string (strN e.body)) ∧ w'.cell? ⟨ga, 5, none⟩ = some (.int .i64 e.time) ∧ w'.cell? ⟨gx, 0, none⟩ = some (.string (strN x.feed)) ∧ w'.cell? ⟨gx, 1, none⟩ = some (.string (strN x.guid)) ∧ w'.cell? ⟨gx, 2, none⟩ = some (.string (strN x.title)) ∧ w'.cell? ⟨gx, 3, none⟩ = some (.string (strN x.link)) ∧ w'.cell? ⟨gx, 4, none⟩ = some (.string (strN x.body)) ∧ w'.cell? ⟨gx, 5, none⟩ = some (.int .i64 x.time)) (by kernel_rfl) ⟨A_0, A_1, A_2, A_3, A_4, A_5, X_0, X_1, X_2, X_3, X_4, X_5⟩ (fun hS => ?_)
    clear A_0 A_1 A_2 A_3 A_4 A_5 X_0 X_1 X_2 X_3 X_4 X_5
    generalize w37.drew = v0 at *
    refine wpAnyH_take (i := 0) (v := ?_) rfl (by kernel_rfl) (by kernel_rfl) (by kernel_rfl) (fun _ _ _ h => h) (Or.inl ⟨by rfl, ?_⟩) hS ?_
    rotate_left 1
    · intro w hSw; (try dsimp only at hSw); go_simp <;> with_reducible rfl
    simp only [List.getElem_toArray, List.getElem_cons_zero, List.getElem_cons_succ, Act.put, List.setIfInBounds_toArray, List.set_cons_zero, List.set_cons_succ]
    refine wpAnyH_take (i := 1) (v := ?_) rfl (by kernel_rfl) (by kernel_rfl) (by kernel_rfl) (fun _ _ _ h => h) (Or.inl ⟨by rfl, ?_⟩) hS ?_
    rotate_left 1
    · intro w hSw; (try dsimp only at hSw); go_simp <;> with_reducible rfl
    simp only [List.getElem_toArray, List.getElem_cons_zero, List.getElem_cons_succ, Act.put, List.setIfInBounds_toArray, List.set_cons_zero, List.set_cons_succ]
    refine wpAnyH_take (i := 2) (v := ?_) rfl (by kernel_rfl) (by kernel_rfl) (by kernel_rfl) (fun _ _ _ h => h) (Or.inl ⟨by rfl, ?_⟩) hS ?_
    rotate_left 1
    · intro w hSw; (try dsimp only at hSw); go_simp <;> with_reducible rfl
    simp only [List.getElem_toArray, List.getElem_cons_zero, List.getElem_cons_succ, Act.put, List.setIfInBounds_toArray, List.set_cons_zero, List.set_cons_succ]
    refine wpAnyH_take (i := 3) (v := ?_) rfl (by kernel_rfl) (by kernel_rfl) (by kernel_rfl) (fun _ _ _ h => h) (Or.inl ⟨by rfl, ?_⟩) hS ?_
    rotate_left 1
    · intro w hSw; (try dsimp only at hSw); go_simp <;> with_reducible rfl
    simp only [List.getElem_toArray, List.getElem_cons_zero, List.getElem_cons_succ, Act.put, List.setIfInBounds_toArray, List.set_cons_zero, List.set_cons_succ]
    refine wpAnyH_take (i := 4) (v := ?_) rfl (by kernel_rfl) (by kernel_rfl) (by kernel_rfl) (fun _ _ _ h => h) (Or.inl ⟨by rfl, ?_⟩) hS ?_
    rotate_left 1
    · intro w hSw; (try dsimp only at hSw); go_simp <;> with_reducible rfl
    simp only [List.getElem_toArray, List.getElem_cons_zero, List.getElem_cons_succ, Act.put, List.setIfInBounds_toArray, List.set_cons_zero, List.set_cons_succ]
    refine wpAnyH_take (i := 8) (v := ?_) rfl (by kernel_rfl) (by kernel_rfl) (by kernel_rfl) (fun _ _ _ h => h) (Or.inl ⟨by rfl, ?_⟩) hS ?_
    rotate_left 1
    · intro w hSw; (try dsimp only at hSw); go_simp <;> with_reducible rfl
    simp only [List.getElem_toArray, List.getElem_cons_zero, List.getElem_cons_succ, Act.put, List.setIfInBounds_toArray, List.set_cons_zero, List.set_cons_succ]
    refine wpAnyH_ready (rs := [5]) (by kernel_rfl) (by simp) ?_
    refine AllReadyH.cons rfl (fun K hK => ?_) AllReadyH.nil
    go_simp
    refine Calls.mono (HSe.out _) ?_
    rintro r v1 ⟨rfl, hbx⟩
    have HA41 : Hid (EntAt v1 ga e) := HA38.out.later hbx HA38.out.lt
    have HX42 : Hid (EntAt v1 gx x) := HX39.out.later hbx HX39.out.lt
    have HB43 : Hid (Below W.heap.size W v1) := HB40.out.trans (hbx.mono HB40.out.size)
    clear HA38 HX39 HB40 hbx
    refine hK.out _ _ ⟨HA41.out.cells.1, HA41.out.cells.2.1, HA41.out.cells.2.2.1, HA41.out.cells.2.2.2.1, HA41.out.cells.2.2.2.2.1, HA41.out.cells.2.2.2.2.2, HX42.out.cells.1, HX42.out.cells.2.1, HX42.out.cells.2.2.1, HX42.out.cells.2.2.2.1, HX42.out.cells.2.2.2.2.1, HX42.out.cells.2.2.2.2.2⟩ (fun hS => ?_)
    clear hK K
    clear HSe
    refine wpAnyH_ready (rs := [6]) (by kernel_rfl) (by simp) ?_
    refine AllReadyH.cons rfl (fun K hK => ?_) AllReadyH.nil
    go_simp
    have HG0 : Hid (Arr (v1.alloc (.cells #[.string (strN e.feed), .string (strN e.guid), .string (strN e.title), .string (strN e.link), .string (strN e.body), .int .i64 e.time, .string (strN x.feed), .string (strN x.guid), .string (strN x.title), .string (strN x.link), .string (strN x.body), .int .i64 x.time, .string (strN s1.feed), .string (strN s1.guid), .string (strN s1.title), .string (strN s1.link), .string (strN s1.body), .int .i64 s1.time] 23)) v1.heap.size 23 (flatE [e, x, s1])) := Arr.new v1 23 (flatE [e, x, s1]) rfl
    have HA44 : Hid (EntAt (v1.alloc (.cells #[.string (strN e.feed), .string (strN e.guid), .string (strN e.title), .string (strN e.link), .string (strN e.body), .int .i64 e.time, .string (strN x.feed), .string (strN x.guid), .string (strN x.title), .string (strN x.link), .string (strN x.body), .int .i64 x.time, .string (strN s1.feed), .string (strN s1.guid), .string (strN s1.title), .string (strN s1.link), .string (strN s1.body), .int .i64 s1.time] 23)) ga e) := HA41.out.alloc _
    have HX45 : Hid (EntAt (v1.alloc (.cells #[.string (strN e.feed), .string (strN e.guid), .string (strN e.title), .string (strN e.link), .string (strN e.body), .int .i64 e.time, .string (strN x.feed), .string (strN x.guid), .string (strN x.title), .string (strN x.link), .string (strN x.body), .int .i64 x.time, .string (strN s1.feed), .string (strN s1.guid), .string (strN s1.title), .string (strN s1.link), .string (strN s1.body), .int .i64 s1.time] 23)) gx x) := HX42.out.alloc _
    have HB46 : Hid (Below W.heap.size W (v1.alloc (.cells #[.string (strN e.feed), .string (strN e.guid), .string (strN e.title), .string (strN e.link), .string (strN e.body), .int .i64 e.time, .string (strN x.feed), .string (strN x.guid), .string (strN x.title), .string (strN x.link), .string (strN x.body), .int .i64 x.time, .string (strN s1.feed), .string (strN s1.guid), .string (strN s1.title), .string (strN s1.link), .string (strN s1.body), .int .i64 s1.time] 23))) := HB43.out.alloc HB43.out.size _
    clear HA41 HX42 HB43
    refine hK.out _ _ ⟨HA44.out.cells.1, HA44.out.cells.2.1, HA44.out.cells.2.2.1, HA44.out.cells.2.2.2.1, HA44.out.cells.2.2.2.2.1, HA44.out.cells.2.2.2.2.2, HX45.out.cells.1, HX45.out.cells.2.1, HX45.out.cells.2.2.1, HX45.out.cells.2.2.2.1, HX45.out.cells.2.2.2.2.1, HX45.out.cells.2.2.2.2.2⟩ (fun hS => ?_)
    clear hK K
    refine wpAnyH_take (i := 7) (v := ?_) rfl (by kernel_rfl) (by kernel_rfl) (by kernel_rfl) (fun _ _ _ h => h) (Or.inl ⟨by rfl, ?_⟩) hS ?_
    rotate_left 1
    · intro w hSw; (try dsimp only at hSw); go_simp <;> with_reducible rfl
    simp only [List.getElem_toArray, List.getElem_cons_zero, List.getElem_cons_succ, Act.put, List.setIfInBounds_toArray, List.set_cons_zero, List.set_cons_succ]
    refine wpAnyH_done (by kernel_rfl) ?_ _
    clear HA44 HX45 hS
    generalize v1.alloc (.cells #[.string (strN e.feed), .string (strN e.guid), .string (strN e.title), .string (strN e.link), .string (strN e.body), .int .i64 e.time, .string (strN x.feed), .string (strN x.guid), .string (strN x.title), .string (strN x.link), .string (strN x.body), .int .i64 x.time, .string (strN s1.feed), .string (strN s1.guid), .string (strN s1.title), .string (strN s1.link), .string (strN s1.body), .int .i64 s1.time] 23) = w5 at *
    generalize v1.heap.size = g at *
    have HQm : Hid (∀ i, i < 3 → EFit ([e, x, s1][i]?.getD EntMath.zero)) := fun i hi => by
      match i, hi with
      | 0, _ => exact HFe.out
      | 1, _ => exact HFx.out
      | 2, _ => exact HFs.out
    have HGc : Hid (∀ w i, i < 3 → Arr w g 23 (flatE [e, x, s1]) → _) := fun w i hi h => row_cells h i (by simpa using hi)
    obtain ⟨L, hL⟩ : ∃ L, L = [e, x, s1] := ⟨_, rfl⟩
    rw [← hL] at HG0 HQm HGc
    clear hL HFe HFx HFs
    go_upto_region 7 with (fail)
    go_loopw [54] (fun i wr => ∃ m : Nat, m ≤ 3 ∧ i = .int .i64 m ∧ Arr wr g 23 (flatE L) ∧ Below W.heap.size W wr) (fun i _ => 3 - (intOf i).toNat)
    case atStart => exact ⟨0, by omega, rfl, HG0.out, HB46.out⟩
    case round =>
      obtain ⟨m, hm, rfl, hG, hB⟩ := hrel
      have HG : Hid (Arr wr g 23 (flatE L)) := hG
      have HB : Hid (Below W.heap.size W wr) := hB
      clear hG hB HG0 HB46
      by_cases hmn : m < 3
      · have hmi : (m : Int) < 3 := by omega
        have HFm : Hid (EFit (L[m]?.getD EntMath.zero)) := HQm.out m hmn
        have HGm : Hid (∀ w, Arr w g 23 (flatE L) → _) := fun w h => HGc.out w m hmn h
        generalize L[m]?.getD EntMath.zero = em at HGm HFm
        have HCm : Hid (∀ w, Below W.heap.size W w → _) := fun w hB => HCl.out em HFm.out w hB
        have HRm : Hid (∀ w, _) := fun w => HRc.out em HFm.out w
        have HFc : Hid (EFit (EntMath.clean em).1) := EFit.of (EntMath.clean_any_fit em)
        have HTw : Hid ((EntMath.clean em).2 = 0 → EntMath.clean (EntMath.clean em).1 = ((EntMath.clean em).1, 0)) := fun h => EntMath.clean_twice (e := em) (by rw [← h])
        generalize (EntMath.clean em).1 = c at HCm HRm HFc HTw
        generalize (EntMath.clean em).2 = kn at HCm HRm HTw
        obtain ⟨p0, p1, p2, p3, p4, p5⟩ := HGm.out _ HG.out
        have HX101 : Hid (EntAt (wr.alloc (.cells #[.string ⟨#[]⟩, .string ⟨#[]⟩, .string ⟨#[]⟩, .string ⟨#[]⟩, .string ⟨#[]⟩, .int .i64 0] 23)) wr.heap.size EntMath.zero) := EntAt.new wr EntMath.zero
        have hlt_gv_G : g < wr.heap.size := Arr.lt HG.out
        have hle_gv : W.heap.size ≤ wr.heap.size := HB.out.size
        have HG102 : Hid (Arr ((wr.alloc (.cells #[.string ⟨#[]⟩, .string ⟨#[]⟩, .string ⟨#[]⟩, .string ⟨#[]⟩, .string ⟨#[]⟩, .int .i64 0] 23)).setRow wr.heap.size (entL em).toArray) g 23 (flatE L)) := Arr.row_other (Arr.alloc HG.out _) _ (by omega)
        have HB103 : Hid (Below W.heap.size W ((wr.alloc (.cells #[.string ⟨#[]⟩, .string ⟨#[]⟩, .string ⟨#[]⟩, .string ⟨#[]⟩, .string ⟨#[]⟩, .int .i64 0] 23)).setRow wr.heap.size (entL em).toArray)) := below_setRow (HB.out.alloc HB.out.size _) (by omega) _
        have HV104 : Hid (EntAt ((wr.alloc (.cells #[.string ⟨#[]⟩, .string ⟨#[]⟩, .string ⟨#[]⟩, .string ⟨#[]⟩, .string ⟨#[]⟩, .int .i64 0] 23)).setRow wr.heap.size (entL em).toArray) wr.heap.size em) := EntAt.row HX101.out
        go_upto_region 9 with (first | refine wpList_store_ent rfl (.tmp 17) (.tmp 57) rfl wr.heap.size EntMath.zero em rfl rfl HX101.out ?_)
        clear HG HB HX101 hlt_gv_G
        generalize (wr.alloc (.cells #[.string ⟨#[]⟩, .string ⟨#[]⟩, .string ⟨#[]⟩, .string ⟨#[]⟩, .string ⟨#[]⟩, .int .i64 0] 23)).setRow wr.heap.size (entL em).toArray = w105 at *
        generalize wr.heap.size = gv at *
        clear p0 p1 p2 p3 p4 p5
        obtain ⟨V_0, V_1, V_2, V_3, V_4, V_5⟩ := HV104.out.cells
        go_wp2_with fail
        refine Calls.mono (HCm.out _ HB103.out) ?_
        rintro r w106 ⟨rfl, hb106⟩
        have HG107 : Hid (Arr w106 g 23 (flatE L)) := Arr.later HG102.out hb106 (Arr.lt HG102.out)
        have HV108 : Hid (EntAt w106 gv em) := HV104.out.later hb106 HV104.out.lt
        have HB109 : Hid (Below W.heap.size W w106) := HB103.out.trans (hb106.mono HB103.out.size)
        clear HG102 HV104 HB103 hb106
        clear V_0 V_1 V_2 V_3 V_4 V_5
        have HX110 : Hid (EntAt (w106.alloc (.cells #[.string ⟨#[]⟩, .string ⟨#[]⟩, .string ⟨#[]⟩, .string ⟨#[]⟩, .string ⟨#[]⟩, .int .i64 0] 23)) w106.heap.size EntMath.zero) := EntAt.new w106 EntMath.zero
        have hlt_gc_G : g < w106.heap.size := Arr.lt HG107.out
        have hlt_gc_V : gv < w106.heap.size := HV108.out.lt
        have hle_gc : W.heap.size ≤ w106.heap.size := HB109.out.size
        have HG111 : Hid (Arr ((w106.alloc (.cells #[.string ⟨#[]⟩, .string ⟨#[]⟩, .string ⟨#[]⟩, .string ⟨#[]⟩, .string ⟨#[]⟩, .int .i64 0] 23)).setRow w106.heap.size (entL c).toArray) g 23 (flatE L)) := Arr.row_other (Arr.alloc HG107.out _) _ (by omega)
        have HV112 : Hid (EntAt ((w106.alloc (.cells #[.string ⟨#[]⟩, .string ⟨#[]⟩, .string ⟨#[]⟩, .string ⟨#[]⟩, .string ⟨#[]⟩, .int .i64 0] 23)).setRow w106.heap.size (entL c).toArray) gv em) := EntAt.row_other (HV108.out.alloc _) _ (by omega)
        have HB113 : Hid (Below W.heap.size W ((w106.alloc (.cells #[.string ⟨#[]⟩, .string ⟨#[]⟩, .string ⟨#[]⟩, .string ⟨#[]⟩, .string ⟨#[]⟩, .int .i64 0] 23)).setRow w106.heap.size (entL c).toArray)) := below_setRow (HB109.out.alloc HB109.out.size _) (by omega) _
        have HC114 : Hid (EntAt ((w106.alloc (.cells #[.string ⟨#[]⟩, .string ⟨#[]⟩, .string ⟨#[]⟩, .string ⟨#[]⟩, .string ⟨#[]⟩, .int .i64 0] 23)).setRow w106.heap.size (entL c).toArray) w106.heap.size c) := EntAt.row HX110.out
        go_upto_region 10 with (first | refine wpList_store_ent rfl (.tmp 18) (.tmp 61) rfl w106.heap.size EntMath.zero c rfl rfl HX110.out ?_)
        clear HG107 HV108 HB109 HX110 hlt_gc_G hlt_gc_V
        generalize (w106.alloc (.cells #[.string ⟨#[]⟩, .string ⟨#[]⟩, .string ⟨#[]⟩, .string ⟨#[]⟩, .string ⟨#[]⟩, .int .i64 0] 23)).setRow w106.heap.size (entL c).toArray = w115 at *
        generalize w106.heap.size = gc at *
        obtain ⟨V_0, V_1, V_2, V_3, V_4, V_5⟩ := HV112.out.cells
        go_wp2_with fail
        refine Calls.mono (HRm.out _) ?_
        rintro r w116 ⟨rfl, hb116⟩
        have HG117 : Hid (Arr w116 g 23 (flatE L)) := Arr.later HG111.out hb116 (Arr.lt HG111.out)
        have HV118 : Hid (EntAt w116 gv em) := HV112.out.later hb116 HV112.out.lt
        have HC119 : Hid (EntAt w116 gc c) := HC114.out.later hb116 HC114.out.lt
        have HB120 : Hid (Below W.heap.size W w116) := HB113.out.trans (hb116.mono HB113.out.size)
        clear HG111 HV112 HC114 HB113 hb116
        clear V_0 V_1 V_2 V_3 V_4 V_5
        have HX121 : Hid (EntAt (w116.alloc (.cells #[.string ⟨#[]⟩, .string ⟨#[]⟩, .string ⟨#[]⟩, .string ⟨#[]⟩, .string ⟨#[]⟩, .int .i64 0] 23)) w116.heap.size EntMath.zero) := EntAt.new w116 EntMath.zero
        have hlt_gd_G : g < w116.heap.size := Arr.lt HG117.out
        have hlt_gd_V : gv < w116.heap.size := HV118.out.lt
        have hlt_gd_C : gc < w116.heap.size := HC119.out.lt
        have hle_gd : W.heap.size ≤ w116.heap.size := HB120.out.size
        have HG122 : Hid (Arr ((w116.alloc (.cells #[.string ⟨#[]⟩, .string ⟨#[]⟩, .string ⟨#[]⟩, .string ⟨#[]⟩, .string ⟨#[]⟩, .int .i64 0] 23)).setRow w116.heap.size (entL c).toArray) g 23 (flatE L)) := Arr.row_other (Arr.alloc HG117.out _) _ (by omega)
        have HV123 : Hid (EntAt ((w116.alloc (.cells #[.string ⟨#[]⟩, .string ⟨#[]⟩, .string ⟨#[]⟩, .string ⟨#[]⟩, .string ⟨#[]⟩, .int .i64 0] 23)).setRow w116.heap.size (entL c).toArray) gv em) := EntAt.row_other (HV118.out.alloc _) _ (by omega)
        have HC124 : Hid (EntAt ((w116.alloc (.cells #[.string ⟨#[]⟩, .string ⟨#[]⟩, .string ⟨#[]⟩, .string ⟨#[]⟩, .string ⟨#[]⟩, .int .i64 0] 23)).setRow w116.heap.size (entL c).toArray) gc c) := EntAt.row_other (HC119.out.alloc _) _ (by omega)
        have HB125 : Hid (Below W.heap.size W ((w116.alloc (.cells #[.string ⟨#[]⟩, .string ⟨#[]⟩, .string ⟨#[]⟩, .string ⟨#[]⟩, .string ⟨#[]⟩, .int .i64 0] 23)).setRow w116.heap.size (entL c).toArray)) := below_setRow (HB120.out.alloc HB120.out.size _) (by omega) _
        have HD126 : Hid (EntAt ((w116.alloc (.cells #[.string ⟨#[]⟩, .string ⟨#[]⟩, .string ⟨#[]⟩, .string ⟨#[]⟩, .string ⟨#[]⟩, .int .i64 0] 23)).setRow w116.heap.size (entL c).toArray) w116.heap.size c) := EntAt.row HX121.out
        go_upto_region 11 with (first | refine wpList_store_ent rfl (.tmp 20) (.tmp 66) rfl w116.heap.size EntMath.zero c rfl rfl HX121.out ?_)
        clear HG117 HV118 HC119 HB120 HX121 hlt_gd_G hlt_gd_V hlt_gd_C
        generalize (w116.alloc (.cells #[.string ⟨#[]⟩, .string ⟨#[]⟩, .string ⟨#[]⟩, .string ⟨#[]⟩, .string ⟨#[]⟩, .int .i64 0] 23)).setRow w116.heap.size (entL c).toArray = w127 at *
        generalize w116.heap.size = gd at *
        clear HCm HRm
        have HRi1 : Hid (∀ u : Grown1 w127, _) := fun u => HRi.out em HFm.out u.w (HB125.out.trans (u.below.mono HB125.out.size))
        have HRr1 : Hid (∀ u : Grown1 w127, _) := fun u => HRr.out em HFm.out u.w
        obtain ⟨V_0, V_1, V_2, V_3, V_4, V_5⟩ := HV123.out.cells
        have V_0' := fun m : Grown1 w127 => grown1_cell V_0 m
        have V_1' := fun m : Grown1 w127 => grown1_cell V_1 m
        have V_2' := fun m : Grown1 w127 => grown1_cell V_2 m
        have V_3' := fun m : Grown1 w127 => grown1_cell V_3 m
        have V_4' := fun m : Grown1 w127 => grown1_cell V_4 m
        have V_5' := fun m : Grown1 w127 => grown1_cell V_5 m
        clear V_0 V_1 V_2 V_3 V_4 V_5
        obtain ⟨C_0, C_1, C_2, C_3, C_4, C_5⟩ := HC124.out.cells
        have C_0' := fun m : Grown1 w127 => grown1_cell C_0 m
        have C_1' := fun m : Grown1 w127 => grown1_cell C_1 m
        have C_2' := fun m : Grown1 w127 => grown1_cell C_2 m
        have C_3' := fun m : Grown1 w127 => grown1_cell C_3 m
        have C_4' := fun m : Grown1 w127 => grown1_cell C_4 m
        have C_5' := fun m : Grown1 w127 => grown1_cell C_5 m
        clear C_0 C_1 C_2 C_3 C_4 C_5
        obtain ⟨D_0, D_1, D_2, D_3, D_4, D_5⟩ := HD126.out.cells
        have D_0' := fun m : Grown1 w127 => grown1_cell D_0 m
        have D_1' := fun m : Grown1 w127 => grown1_cell D_1 m
        have D_2' := fun m : Grown1 w127 => grown1_cell D_2 m
        have D_3' := fun m : Grown1 w127 => grown1_cell D_3 m
        have D_4' := fun m : Grown1 w127 => grown1_cell D_4 m
        have D_5' := fun m : Grown1 w127 => grown1_cell D_5 m
        clear D_0 D_1 D_2 D_3 D_4 D_5
        have hne : Nonempty (Grown1 w127) := ⟨⟨w127, Below.refl _ _⟩⟩
        (try simp only [Act.put])
        refine wp_region_grow (by kernel_rfl) (by kernel_rfl) ?_
        repeat (go_big_quiet_step (first | with_reducible exact grown1_call _ (HRi1.out _) | with_reducible exact grown1_call _ (HRr1.out _) | fail))
        refine wpQuiet_nil ?_
        intro _ hw'
        obtain ⟨n1, hw''⟩ := hw'
        subst hw''
        have HG128 : Hid (Arr n1.w g 23 (flatE L)) := Arr.later HG122.out n1.below (Arr.lt HG122.out)
        have HV129 : Hid (EntAt n1.w gv em) := HV123.out.later n1.below HV123.out.lt
        have HC130 : Hid (EntAt n1.w gc c) := HC124.out.later n1.below HC124.out.lt
        have HD131 : Hid (EntAt n1.w gd c) := HD126.out.later n1.below HD126.out.lt
        have HB132 : Hid (Below W.heap.size W n1.w) := HB125.out.trans (n1.below.mono HB125.out.size)
        clear HG122 HV123 HC124 HD126 HB125 V_0' V_1' V_2' V_3' V_4' V_5' C_0' C_1' C_2' C_3' C_4' C_5' D_0' D_1' D_2' D_3' D_4' D_5' HRi1 HRr1
        generalize n1.w = w133 at *
        clear hne n1
        by_cases hk0 : kn = 0
        · have hcc := HTw.out hk0
          subst hk0
          have HC2 : Hid (∀ w, Below W.heap.size W w → _) := fun w hB => HCl.out c HFc.out w hB
          rw [hcc] at HC2
          have HR2 : Hid (∀ w, Below W.heap.size W w → _) := fun w hB => HRi.out c HFc.out w hB
          rw [EntMath.clean_right hcc] at HR2
          clear hcc HTw
          clear HV129
          clear HD131
          obtain ⟨C_0, C_1, C_2, C_3, C_4, C_5⟩ := HC130.out.cells
          go_wp2_with fail
          refine Calls.mono (HC2.out _ HB132.out) ?_
          rintro r w201 ⟨rfl, hb201⟩
          have HG202 : Hid (Arr w201 g 23 (flatE L)) := Arr.later HG128.out hb201 (Arr.lt HG128.out)
          have HC203 : Hid (EntAt w201 gc c) := HC130.out.later hb201 HC130.out.lt
          have HB204 : Hid (Below W.heap.size W w201) := HB132.out.trans (hb201.mono HB132.out.size)
          clear HG128 HC130 HB132 hb201
          clear C_0 C_1 C_2 C_3 C_4 C_5
          have HX205 : Hid (EntAt (w201.alloc (.cells #[.string ⟨#[]⟩, .string ⟨#[]⟩, .string ⟨#[]⟩, .string ⟨#[]⟩, .string ⟨#[]⟩, .int .i64 0] 23)) w201.heap.size EntMath.zero) := EntAt.new w201 EntMath.zero
          have hlt_gf_G : g < w201.heap.size := Arr.lt HG202.out
          have hlt_gf_C : gc < w201.heap.size := HC203.out.lt
          have hle_gf : W.heap.size ≤ w201.heap.size := HB204.out.size
          have HG206 : Hid (Arr ((w201.alloc (.cells #[.string ⟨#[]⟩, .string ⟨#[]⟩, .string ⟨#[]⟩, .string ⟨#[]⟩, .string ⟨#[]⟩, .int .i64 0] 23)).setRow w201.heap.size (entL c).toArray) g 23 (flatE L)) := Arr.row_other (Arr.alloc HG202.out _) _ (by omega)
          have HC207 : Hid (EntAt ((w201.alloc (.cells #[.string ⟨#[]⟩, .string ⟨#[]⟩, .string ⟨#[]⟩, .string ⟨#[]⟩, .string ⟨#[]⟩, .int .i64 0] 23)).setRow w201.heap.size (entL c).toArray) gc c) := EntAt.row_other (HC203.out.alloc _) _ (by omega)
          have HB208 : Hid (Below W.heap.size W ((w201.alloc (.cells #[.string ⟨#[]⟩, .string ⟨#[]⟩, .string ⟨#[]⟩, .string ⟨#[]⟩, .string ⟨#[]⟩, .int .i64 0] 23)).setRow w201.heap.size (entL c).toArray)) := below_setRow (HB204.out.alloc HB204.out.size _) (by omega) _
          have HF209 : Hid (EntAt ((w201.alloc (.cells #[.string ⟨#[]⟩, .string ⟨#[]⟩, .string ⟨#[]⟩, .string ⟨#[]⟩, .string ⟨#[]⟩, .int .i64 0] 23)).setRow w201.heap.size (entL c).toArray) w201.heap.size c) := EntAt.row HX205.out
          go_upto_region 15 with (first | refine wpList_store_ent rfl (.tmp 22) (.tmp 88) rfl w201.heap.size EntMath.zero c rfl rfl HX205.out ?_)
          clear HG202 HC203 HB204 HX205 hlt_gf_G hlt_gf_C
          generalize (w201.alloc (.cells #[.string ⟨#[]⟩, .string ⟨#[]⟩, .string ⟨#[]⟩, .string ⟨#[]⟩, .string ⟨#[]⟩, .int .i64 0] 23)).setRow w201.heap.size (entL c).toArray = w210 at *
          generalize w201.heap.size = gf at *
          obtain ⟨C_0, C_1, C_2, C_3, C_4, C_5⟩ := HC207.out.cells
          obtain ⟨F_0, F_1, F_2, F_3, F_4, F_5⟩ := HF209.out.cells
          go_wp2_with fail
          refine Calls.mono (HR2.out _ HB208.out) ?_
          rintro r w211 ⟨rfl, hb211⟩
          have HG212 : Hid (Arr w211 g 23 (flatE L)) := Arr.later HG206.out hb211 (Arr.lt HG206.out)
          have HC213 : Hid (EntAt w211 gc c) := HC207.out.later hb211 HC207.out.lt
          have HF214 : Hid (EntAt w211 gf c) := HF209.out.later hb211 HF209.out.lt
          have HB215 : Hid (Below W.heap.size W w211) := HB208.out.trans (hb211.mono HB208.out.size)
          clear HG206 HC207 HF209 HB208 hb211
          clear C_0 C_1 C_2 C_3 C_4 C_5 F_0 F_1 F_2 F_3 F_4 F_5
          go_wp2
          go_roundw
          case rel => exact ⟨m + 1, by omega, by go_num, HG212.out, HB215.out⟩
          case measure => simp [intOf]; omega
        · have hkb : ((kn : Int) == 0) = false := by simp; omega
          go_wp2
          go_roundw
          case rel => exact ⟨m + 1, by omega, by go_num, HG128.out, HB132.out⟩
          case measure => simp [intOf]; omega
      · have hmk : m = 3 := by omega
        have hdk : decide ((m : Int) < 3) = false := by simp; omega
        go_wp2
        go_ret
        exact ⟨rfl, by first | exact HB.out | (rw [← hga]; exact HB.out)⟩
end Go.Proofs.YteockpllnhjooaaGreatDoor
