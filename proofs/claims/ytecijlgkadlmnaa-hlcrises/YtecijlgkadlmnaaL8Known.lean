/-
  The walk of layer 8's known; what the calls keep.
-/
import Derived.Test.YtecijlgkadlmnaaFnHlcF
import Derived.Test.YtecijlgkadlmnaaFnRefHlcC
namespace Go.Proofs.Ytecijlgkadlmnaa
open Go.RowKit NumMath
open StMath (St)
open HlcMath (Ck)
set_option maxRecDepth 100000
set_option linter.unusedVariables false
set_option linter.unusedSimpArgs false

theorem next_lit (g : Nat) (c c' : Ck) (now : Int) (s : St) (e : Int) (ho : HlcMath.Ok c) (h1 : HlcMath.peek c now = (s, e)) (h2 : HlcMath.next c now = c') (w : World) (hc : CkAt w g c) :
    Calls Try.prog 16 #[.pointer (some ⟨g, 0, none⟩), .int .i64 now] w fun r w' => r = .returned (.tuple #[.agg #[.int .i64 s.p, .int .i64 s.l, .int .i64 s.r], .int .i64 e]) ∧ CkAt w' g c' ∧ w.grownBy w' (some g) := by
  have := next_any g c now w hc ho
  rw [h1, h2] at this
  exact this
def k0 : Ck := ⟨⟨0, 0, 3⟩, 1, 10⟩
def k1 : Ck := ⟨⟨5, 0, 3⟩, 1, 10⟩
def k2 : Ck := ⟨⟨5, 1, 3⟩, 1, 10⟩
def k3 : Ck := ⟨⟨6, 0, 3⟩, 1, 10⟩
theorem k0_ok : HlcMath.Ok k0 := newOk_ok (by decide)
theorem k1_ok : HlcMath.Ok k1 := by constructor <;> decide
theorem k2_ok : HlcMath.Ok k2 := by constructor <;> decide
theorem k3_ok : HlcMath.Ok k3 := by constructor <;> decide

set_option maxRecDepth 100000 in
set_option maxHeartbeats 8000000 in
theorem known8_any (W : World) : Calls Try.prog 8 #[] W fun e w' => e = .returned (.bool true) ∧ Below W.heap.size W w' := by
  have HN0 : Hid (∀ g w, CkAt w g k0 → _) := fun g w hc => next_lit g k0 k1 5 ⟨5, 0, 3⟩ 0 k0_ok (by rfl) (by rfl) w hc
  have HN1 : Hid (∀ g w, CkAt w g k1 → _) := fun g w hc => next_lit g k1 k2 5 ⟨5, 1, 3⟩ 0 k1_ok (by rfl) (by rfl) w hc
  have HN2 : Hid (∀ g w, CkAt w g k2 → _) := fun g w hc => next_lit g k2 k3 5 ⟨6, 0, 3⟩ 0 k2_ok (by rfl) (by rfl) w hc
  have HN3 : Hid (∀ g w, CkAt w g k3 → _) := fun g w hc => next_lit g k3 k3 (-1) StMath.zero 24 k3_ok (by rfl) (by rfl) w hc
  have HL : Hid (∀ g w, CkAt w g k3 → Calls Try.prog 18 #[.pointer (some ⟨g, 0, none⟩)] w fun e w' => e = .returned (.agg #[.int .i64 6, .int .i64 0, .int .i64 3]) ∧ Below w.heap.size w w') := fun g w hc => last_any g k3 w hc
  unfold StMath.zero at HN3
  dsimp only at HN0 HN1 HN2 HN3
  go_enter Try.func8, Try.ntmps8
  go_wp2_with fail
  refine Calls.mono (new_any 3 1 10 _) ?_
  rintro e w1 ⟨hb1, ⟨hk, _⟩ | ⟨_, g, hg, rfl, hc1⟩⟩
  · exact absurd hk (by decide)
  have HB0 : Hid _ := hb1
  have HC0 : Hid (CkAt w1 g k0) := hc1
  clear hb1 hc1
  go_wp2_with fail
  refine Calls.mono (HN0.out g _ HC0.out) ?_
  rintro e w1 ⟨rfl, hc1, hg1⟩
  have HC2 : Hid (CkAt w1 g k1) := hc1
  have HB3 : Hid (Below W.heap.size W w1) := below_gr HB0.out hg1 HB0.out.size (by omega)
  clear HC0 HB0 hc1 hg1
  have HX4 : Hid (StAt (w1.alloc (.cells #[.int .i64 0, .int .i64 0, .int .i64 0] 32)) w1.heap.size StMath.zero) := StAt.new w1 StMath.zero rfl
  have hlt_ga_C : g < w1.heap.size := HC2.out.lt
  have hle_ga : W.heap.size ≤ w1.heap.size := HB3.out.size
  have HC5 : Hid (CkAt ((w1.alloc (.cells #[.int .i64 0, .int .i64 0, .int .i64 0] 32)).setRow w1.heap.size (stL ⟨5, 0, 3⟩).toArray) g k1) := CkAt.row_other (HC2.out.alloc _) _ (by omega)
  have HB6 : Hid (Below W.heap.size W ((w1.alloc (.cells #[.int .i64 0, .int .i64 0, .int .i64 0] 32)).setRow w1.heap.size (stL ⟨5, 0, 3⟩).toArray)) := below_setRow (HB3.out.alloc HB3.out.size _) (by omega) _
  have HXga7 : Hid (StAt ((w1.alloc (.cells #[.int .i64 0, .int .i64 0, .int .i64 0] 32)).setRow w1.heap.size (stL ⟨5, 0, 3⟩).toArray) w1.heap.size ⟨5, 0, 3⟩) := StAt.row HX4.out
  go_upto_region 5 with (first
    | refine wpList_store_st rfl (.tmp 3) (.tmp 24) rfl w1.heap.size StMath.zero ⟨5, 0, 3⟩ rfl rfl HX4.out ?_)
  clear HC2 HB3 HX4
  generalize (w1.alloc (.cells #[.int .i64 0, .int .i64 0, .int .i64 0] 32)).setRow w1.heap.size (stL ⟨5, 0, 3⟩).toArray = w8 at *
  generalize w1.heap.size = ga at *
  go_wp2_with fail
  refine Calls.mono (HN1.out g _ HC5.out) ?_
  rintro e w9 ⟨rfl, hc9, hg9⟩
  have HC10 : Hid (CkAt w9 g k2) := hc9
  have HXga11 : Hid (StAt w9 ga ⟨5, 0, 3⟩) := HXga7.out.grown hg9 (by omega)
  have HB12 : Hid (Below W.heap.size W w9) := below_gr HB6.out hg9 HB6.out.size (by omega)
  clear HC5 HXga7 HB6 hc9 hg9
  have HX13 : Hid (StAt (w9.alloc (.cells #[.int .i64 0, .int .i64 0, .int .i64 0] 32)) w9.heap.size StMath.zero) := StAt.new w9 StMath.zero rfl
  have hlt_gb_C : g < w9.heap.size := HC10.out.lt
  have hlt_gb_Xga : ga < w9.heap.size := HXga11.out.lt
  have hle_gb : W.heap.size ≤ w9.heap.size := HB12.out.size
  have HC14 : Hid (CkAt ((w9.alloc (.cells #[.int .i64 0, .int .i64 0, .int .i64 0] 32)).setRow w9.heap.size (stL ⟨5, 1, 3⟩).toArray) g k2) := CkAt.row_other (HC10.out.alloc _) _ (by omega)
  have HXga15 : Hid (StAt ((w9.alloc (.cells #[.int .i64 0, .int .i64 0, .int .i64 0] 32)).setRow w9.heap.size (stL ⟨5, 1, 3⟩).toArray) ga ⟨5, 0, 3⟩) := StAt.row_other (HXga11.out.alloc _) _ (by omega)
  have HB16 : Hid (Below W.heap.size W ((w9.alloc (.cells #[.int .i64 0, .int .i64 0, .int .i64 0] 32)).setRow w9.heap.size (stL ⟨5, 1, 3⟩).toArray)) := below_setRow (HB12.out.alloc HB12.out.size _) (by omega) _
  have HXgb17 : Hid (StAt ((w9.alloc (.cells #[.int .i64 0, .int .i64 0, .int .i64 0] 32)).setRow w9.heap.size (stL ⟨5, 1, 3⟩).toArray) w9.heap.size ⟨5, 1, 3⟩) := StAt.row HX13.out
  go_upto_region 6 with (first
    | refine wpList_store_st rfl (.tmp 5) (.tmp 29) rfl w9.heap.size StMath.zero ⟨5, 1, 3⟩ rfl rfl HX13.out ?_)
  clear HC10 HXga11 HB12 HX13
  generalize (w9.alloc (.cells #[.int .i64 0, .int .i64 0, .int .i64 0] 32)).setRow w9.heap.size (stL ⟨5, 1, 3⟩).toArray = w18 at *
  generalize w9.heap.size = gb at *
  go_wp2_with fail
  refine Calls.mono (HN2.out g _ HC14.out) ?_
  rintro e w19 ⟨rfl, hc19, hg19⟩
  have HC20 : Hid (CkAt w19 g k3) := hc19
  have HXga21 : Hid (StAt w19 ga ⟨5, 0, 3⟩) := HXga15.out.grown hg19 (by omega)
  have HXgb22 : Hid (StAt w19 gb ⟨5, 1, 3⟩) := HXgb17.out.grown hg19 (by omega)
  have HB23 : Hid (Below W.heap.size W w19) := below_gr HB16.out hg19 HB16.out.size (by omega)
  clear HC14 HXga15 HXgb17 HB16 hc19 hg19
  have HX24 : Hid (StAt (w19.alloc (.cells #[.int .i64 0, .int .i64 0, .int .i64 0] 32)) w19.heap.size StMath.zero) := StAt.new w19 StMath.zero rfl
  have hlt_gc_C : g < w19.heap.size := HC20.out.lt
  have hlt_gc_Xga : ga < w19.heap.size := HXga21.out.lt
  have hlt_gc_Xgb : gb < w19.heap.size := HXgb22.out.lt
  have hle_gc : W.heap.size ≤ w19.heap.size := HB23.out.size
  have HC25 : Hid (CkAt ((w19.alloc (.cells #[.int .i64 0, .int .i64 0, .int .i64 0] 32)).setRow w19.heap.size (stL ⟨6, 0, 3⟩).toArray) g k3) := CkAt.row_other (HC20.out.alloc _) _ (by omega)
  have HXga26 : Hid (StAt ((w19.alloc (.cells #[.int .i64 0, .int .i64 0, .int .i64 0] 32)).setRow w19.heap.size (stL ⟨6, 0, 3⟩).toArray) ga ⟨5, 0, 3⟩) := StAt.row_other (HXga21.out.alloc _) _ (by omega)
  have HXgb27 : Hid (StAt ((w19.alloc (.cells #[.int .i64 0, .int .i64 0, .int .i64 0] 32)).setRow w19.heap.size (stL ⟨6, 0, 3⟩).toArray) gb ⟨5, 1, 3⟩) := StAt.row_other (HXgb22.out.alloc _) _ (by omega)
  have HB28 : Hid (Below W.heap.size W ((w19.alloc (.cells #[.int .i64 0, .int .i64 0, .int .i64 0] 32)).setRow w19.heap.size (stL ⟨6, 0, 3⟩).toArray)) := below_setRow (HB23.out.alloc HB23.out.size _) (by omega) _
  have HXgc29 : Hid (StAt ((w19.alloc (.cells #[.int .i64 0, .int .i64 0, .int .i64 0] 32)).setRow w19.heap.size (stL ⟨6, 0, 3⟩).toArray) w19.heap.size ⟨6, 0, 3⟩) := StAt.row HX24.out
  go_upto_region 7 with (first
    | refine wpList_store_st rfl (.tmp 7) (.tmp 34) rfl w19.heap.size StMath.zero ⟨6, 0, 3⟩ rfl rfl HX24.out ?_)
  clear HC20 HXga21 HXgb22 HB23 HX24
  generalize (w19.alloc (.cells #[.int .i64 0, .int .i64 0, .int .i64 0] 32)).setRow w19.heap.size (stL ⟨6, 0, 3⟩).toArray = w30 at *
  generalize w19.heap.size = gc at *
  go_wp2_with fail
  refine Calls.mono (HN3.out g _ HC25.out) ?_
  rintro e w31 ⟨rfl, hc31, hg31⟩
  have HC32 : Hid (CkAt w31 g k3) := hc31
  have HXga33 : Hid (StAt w31 ga ⟨5, 0, 3⟩) := HXga26.out.grown hg31 (by omega)
  have HXgb34 : Hid (StAt w31 gb ⟨5, 1, 3⟩) := HXgb27.out.grown hg31 (by omega)
  have HXgc35 : Hid (StAt w31 gc ⟨6, 0, 3⟩) := HXgc29.out.grown hg31 (by omega)
  have HB36 : Hid (Below W.heap.size W w31) := below_gr HB28.out hg31 HB28.out.size (by omega)
  clear HC25 HXga26 HXgb27 HXgc29 HB28 hc31 hg31
  have HX37 : Hid (StAt (w31.alloc (.cells #[.int .i64 0, .int .i64 0, .int .i64 0] 32)) w31.heap.size StMath.zero) := StAt.new w31 StMath.zero rfl
  have hlt_gd_C : g < w31.heap.size := HC32.out.lt
  have hlt_gd_Xga : ga < w31.heap.size := HXga33.out.lt
  have hlt_gd_Xgb : gb < w31.heap.size := HXgb34.out.lt
  have hlt_gd_Xgc : gc < w31.heap.size := HXgc35.out.lt
  have hle_gd : W.heap.size ≤ w31.heap.size := HB36.out.size
  have HC38 : Hid (CkAt ((w31.alloc (.cells #[.int .i64 0, .int .i64 0, .int .i64 0] 32)).setRow w31.heap.size (stL StMath.zero).toArray) g k3) := CkAt.row_other (HC32.out.alloc _) _ (by omega)
  have HXga39 : Hid (StAt ((w31.alloc (.cells #[.int .i64 0, .int .i64 0, .int .i64 0] 32)).setRow w31.heap.size (stL StMath.zero).toArray) ga ⟨5, 0, 3⟩) := StAt.row_other (HXga33.out.alloc _) _ (by omega)
  have HXgb40 : Hid (StAt ((w31.alloc (.cells #[.int .i64 0, .int .i64 0, .int .i64 0] 32)).setRow w31.heap.size (stL StMath.zero).toArray) gb ⟨5, 1, 3⟩) := StAt.row_other (HXgb34.out.alloc _) _ (by omega)
  have HXgc41 : Hid (StAt ((w31.alloc (.cells #[.int .i64 0, .int .i64 0, .int .i64 0] 32)).setRow w31.heap.size (stL StMath.zero).toArray) gc ⟨6, 0, 3⟩) := StAt.row_other (HXgc35.out.alloc _) _ (by omega)
  have HB42 : Hid (Below W.heap.size W ((w31.alloc (.cells #[.int .i64 0, .int .i64 0, .int .i64 0] 32)).setRow w31.heap.size (stL StMath.zero).toArray)) := below_setRow (HB36.out.alloc HB36.out.size _) (by omega) _
  have HXgd43 : Hid (StAt ((w31.alloc (.cells #[.int .i64 0, .int .i64 0, .int .i64 0] 32)).setRow w31.heap.size (stL StMath.zero).toArray) w31.heap.size StMath.zero) := StAt.row HX37.out
  go_upto_region 8 with (first
    | refine wpList_store_st rfl (.tmp 9) (.tmp 39) rfl w31.heap.size StMath.zero StMath.zero rfl rfl HX37.out ?_)
  clear HC32 HXga33 HXgb34 HXgc35 HB36 HX37
  generalize (w31.alloc (.cells #[.int .i64 0, .int .i64 0, .int .i64 0] 32)).setRow w31.heap.size (stL StMath.zero).toArray = w44 at *
  generalize w31.heap.size = gd at *
  have HL2 : Hid (∀ m : Grown1 w44, _) := fun m => HL.out g m.w (HC38.out.later m.below HC38.out.lt)
  have hne : Nonempty (Grown1 w44) := ⟨⟨w44, Below.refl _ _⟩⟩
  obtain ⟨Xga_0, Xga_1, Xga_2⟩ := HXga39.out.cells
  have Xga_0' := fun m : Grown1 w44 => grown1_cell Xga_0 m
  have Xga_1' := fun m : Grown1 w44 => grown1_cell Xga_1 m
  have Xga_2' := fun m : Grown1 w44 => grown1_cell Xga_2 m
  clear Xga_0 Xga_1 Xga_2
  obtain ⟨Xgb_0, Xgb_1, Xgb_2⟩ := HXgb40.out.cells
  have Xgb_0' := fun m : Grown1 w44 => grown1_cell Xgb_0 m
  have Xgb_1' := fun m : Grown1 w44 => grown1_cell Xgb_1 m
  have Xgb_2' := fun m : Grown1 w44 => grown1_cell Xgb_2 m
  clear Xgb_0 Xgb_1 Xgb_2
  obtain ⟨Xgc_0, Xgc_1, Xgc_2⟩ := HXgc41.out.cells
  have Xgc_0' := fun m : Grown1 w44 => grown1_cell Xgc_0 m
  have Xgc_1' := fun m : Grown1 w44 => grown1_cell Xgc_1 m
  have Xgc_2' := fun m : Grown1 w44 => grown1_cell Xgc_2 m
  clear Xgc_0 Xgc_1 Xgc_2
  dsimp only at Xga_0' Xga_1' Xga_2' Xgb_0' Xgb_1' Xgb_2' Xgc_0' Xgc_1' Xgc_2'
  (try simp only [Act.put])
  refine wp_region_grow (by kernel_rfl) (by kernel_rfl) ?_
  repeat (go_big_quiet_step (first | with_reducible exact grown1_call _ (HL2.out _) | fail))
  refine wpQuiet_nil ?_
  intro _ hw'
  obtain ⟨n1, hw''⟩ := hw'
  subst hw''
  have HC45 : Hid (CkAt n1.w g k3) := HC38.out.later n1.below HC38.out.lt
  have HXga46 : Hid (StAt n1.w ga ⟨5, 0, 3⟩) := HXga39.out.later n1.below HXga39.out.lt
  have HXgb47 : Hid (StAt n1.w gb ⟨5, 1, 3⟩) := HXgb40.out.later n1.below HXgb40.out.lt
  have HXgc48 : Hid (StAt n1.w gc ⟨6, 0, 3⟩) := HXgc41.out.later n1.below HXgc41.out.lt
  have HXgd49 : Hid (StAt n1.w gd StMath.zero) := HXgd43.out.later n1.below HXgd43.out.lt
  have HB50 : Hid (Below W.heap.size W n1.w) := HB42.out.trans (n1.below.mono HB42.out.size)
  clear HC38 HXga39 HXgb40 HXgc41 HXgd43 HB42 Xga_0' Xga_1' Xga_2' Xgb_0' Xgb_1' Xgb_2' Xgc_0' Xgc_1' Xgc_2' HL2
  generalize n1.w = w51 at *
  clear hne n1
  go_wp2
  go_ret
  exact ⟨rfl, HB50.out⟩
end Go.Proofs.Ytecijlgkadlmnaa
