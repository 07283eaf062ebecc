/-
  The walk of newsreellaw8.play: the program's clock and the document's answer alike.
-/
import Derived.Test.YtecijlgkadlmnaaL8Known
import Derived.Test.YtecijlgkadlmnaaHlcLaws
import Derived.Deep.Cut
namespace Go.Proofs.Ytecijlgkadlmnaa
open Go.RowKit NumMath
open StMath (St)
open HlcMath (Ck)
set_option maxRecDepth 100000
set_option linter.unusedVariables false
set_option linter.unusedSimpArgs false

def PlayR (w : World) (g gd : Nat) (c : Ck) (e : Ending) (w' : World) : Prop := e = .returned (.bool true) ∧ CkAt w' g c ∧ RkAt w' gd c ∧ Two w w' g gd

set_option maxRecDepth 100000 in
set_option maxHeartbeats 16000000 in
theorem play0 (g gd : Nat) (c : Ck) (a : Ac) (w : World) (hne0 : g ≠ gd) (hc : CkAt w g c) (hd : RkAt w gd c) (ho : HlcMath.Ok c) (hk0 : 0 ≤ a.k) (hk1 : a.k ≤ 255) (h6 : a.k % 6 = 0) :
    Calls Try.prog 11 #[.pointer (some ⟨g, 0, none⟩), .pointer (some ⟨gd, 0, none⟩), acV a] w fun e w' => PlayR w g gd (HlcMath.next c a.n) e w' := by
  have HC0 : Hid (CkAt (w.alloc (.cells #[.int .u8 a.k, .int .i64 a.n, .int .i64 a.s.p, .int .i64 a.s.l, .int .i64 a.s.r] 34)) g c) := hc.alloc _
  have HD0 : Hid (RkAt (w.alloc (.cells #[.int .u8 a.k, .int .i64 a.n, .int .i64 a.s.p, .int .i64 a.s.l, .int .i64 a.s.r] 34)) gd c) := hd.alloc _
  have HA0 : Hid (AcAt (w.alloc (.cells #[.int .u8 a.k, .int .i64 a.n, .int .i64 a.s.p, .int .i64 a.s.l, .int .i64 a.s.r] 34)) w.heap.size a) := AcAt.new w a rfl
  have HT0 : Hid (Two w (w.alloc (.cells #[.int .u8 a.k, .int .i64 a.n, .int .i64 a.s.p, .int .i64 a.s.l, .int .i64 a.s.r] 34)) g gd) := (Two.refl w g gd).alloc _
  have hg0 : g < w.heap.size := hc.lt
  have hgd0 : gd < w.heap.size := hd.lt
  have HP : Hid (∀ w, CkAt w g c → _) := fun w hc => next_any g c a.n w hc ho
  have HQ : Hid (∀ w, RkAt w gd c → _) := fun w hc => rnext_any gd c a.n w hc ho
  generalize HlcMath.peek c a.n = se at *
  obtain ⟨s, e⟩ := se
  generalize HlcMath.next c a.n = c' at *
  unfold stV at HP HQ
  dsimp only at HP HQ
  clear hc hd ho
  unfold acV PlayR
  go_enter Try.func11, Try.ntmps11
  go_upto_region 1 with (fail)
  generalize w.alloc (.cells #[.int .u8 a.k, .int .i64 a.n, .int .i64 a.s.p, .int .i64 a.s.l, .int .i64 a.s.r] 34) = w0 at *
  generalize hga : w.heap.size = ga at HA0 hg0 hgd0 ⊢
  obtain ⟨A_0, A_1, A_2, A_3, A_4⟩ := HA0.out.cells
  go_wp2_with fail
  refine Calls.mono (HP.out _ HC0.out) ?_
  rintro e w1 ⟨rfl, hc1, hg1⟩
  have HC2 : Hid (CkAt w1 g c') := hc1
  have HD3 : Hid (RkAt w1 gd c) := HD0.out.grown hg1 (by omega)
  have HA4 : Hid (AcAt w1 ga a) := HA0.out.grown hg1 (by omega)
  have HB5 : Hid (Two w w1 g gd) := HT0.out.left hg1
  clear HC0 HD0 HA0 HT0 hc1 hg1
  clear A_0 A_1 A_2 A_3 A_4
  have HX6 : Hid (StAt (w1.alloc (.cells #[.int .i64 0, .int .i64 0, .int .i64 0] 32)) w1.heap.size StMath.zero) := StAt.new w1 StMath.zero rfl
  have hlt_gx_C : g < w1.heap.size := HC2.out.lt
  have hlt_gx_D : gd < w1.heap.size := HD3.out.lt
  have hlt_gx_A : ga < w1.heap.size := HA4.out.lt
  have hle_gx : w.heap.size ≤ w1.heap.size := HB5.out.size
  have HC7 : Hid (CkAt ((w1.alloc (.cells #[.int .i64 0, .int .i64 0, .int .i64 0] 32)).setRow w1.heap.size (stL s).toArray) g c') := CkAt.row_other (HC2.out.alloc _) _ (by omega)
  have HD8 : Hid (RkAt ((w1.alloc (.cells #[.int .i64 0, .int .i64 0, .int .i64 0] 32)).setRow w1.heap.size (stL s).toArray) gd c) := RkAt.row_other (HD3.out.alloc _) _ (by omega)
  have HA9 : Hid (AcAt ((w1.alloc (.cells #[.int .i64 0, .int .i64 0, .int .i64 0] 32)).setRow w1.heap.size (stL s).toArray) ga a) := AcAt.row_other (HA4.out.alloc _) _ (by omega)
  have HB10 : Hid (Two w ((w1.alloc (.cells #[.int .i64 0, .int .i64 0, .int .i64 0] 32)).setRow w1.heap.size (stL s).toArray) g gd) := (HB5.out.alloc _).new (by omega) _
  have HX11 : Hid (StAt ((w1.alloc (.cells #[.int .i64 0, .int .i64 0, .int .i64 0] 32)).setRow w1.heap.size (stL s).toArray) w1.heap.size s) := StAt.row HX6.out
  go_upto_region 7 with (first
    | refine wpList_store_st rfl (.tmp 7) (.tmp 34) rfl w1.heap.size StMath.zero s rfl rfl HX6.out ?_)
  clear HC2 HD3 HA4 HB5 HX6
  generalize (w1.alloc (.cells #[.int .i64 0, .int .i64 0, .int .i64 0] 32)).setRow w1.heap.size (stL s).toArray = w12 at *
  generalize w1.heap.size = gx at *
  obtain ⟨A_0, A_1, A_2, A_3, A_4⟩ := HA9.out.cells
  go_wp2_with fail
  refine Calls.mono (HQ.out _ HD8.out) ?_
  rintro e w13 ⟨rfl, hc13, hg13⟩
  have HC14 : Hid (CkAt w13 g c') := HC7.out.grown hg13 (by omega)
  have HD15 : Hid (RkAt w13 gd c') := hc13
  have HA16 : Hid (AcAt w13 ga a) := HA9.out.grown hg13 (by omega)
  have HX17 : Hid (StAt w13 gx s) := HX11.out.grown hg13 (by omega)
  have HB18 : Hid (Two w w13 g gd) := HB10.out.right hg13
  clear HC7 HD8 HA9 HX11 HB10 hc13 hg13
  clear A_0 A_1 A_2 A_3 A_4
  have HX19 : Hid (StAt (w13.alloc (.cells #[.int .i64 0, .int .i64 0, .int .i64 0] 32)) w13.heap.size StMath.zero) := StAt.new w13 StMath.zero rfl
  have hlt_gy_C : g < w13.heap.size := HC14.out.lt
  have hlt_gy_D : gd < w13.heap.size := HD15.out.lt
  have hlt_gy_A : ga < w13.heap.size := HA16.out.lt
  have hlt_gy_X : gx < w13.heap.size := HX17.out.lt
  have hle_gy : w.heap.size ≤ w13.heap.size := HB18.out.size
  have HC20 : Hid (CkAt ((w13.alloc (.cells #[.int .i64 0, .int .i64 0, .int .i64 0] 32)).setRow w13.heap.size (stL s).toArray) g c') := CkAt.row_other (HC14.out.alloc _) _ (by omega)
  have HD21 : Hid (RkAt ((w13.alloc (.cells #[.int .i64 0, .int .i64 0, .int .i64 0] 32)).setRow w13.heap.size (stL s).toArray) gd c') := RkAt.row_other (HD15.out.alloc _) _ (by omega)
  have HA22 : Hid (AcAt ((w13.alloc (.cells #[.int .i64 0, .int .i64 0, .int .i64 0] 32)).setRow w13.heap.size (stL s).toArray) ga a) := AcAt.row_other (HA16.out.alloc _) _ (by omega)
  have HX23 : Hid (StAt ((w13.alloc (.cells #[.int .i64 0, .int .i64 0, .int .i64 0] 32)).setRow w13.heap.size (stL s).toArray) gx s) := StAt.row_other (HX17.out.alloc _) _ (by omega)
  have HB24 : Hid (Two w ((w13.alloc (.cells #[.int .i64 0, .int .i64 0, .int .i64 0] 32)).setRow w13.heap.size (stL s).toArray) g gd) := (HB18.out.alloc _).new (by omega) _
  have HY25 : Hid (StAt ((w13.alloc (.cells #[.int .i64 0, .int .i64 0, .int .i64 0] 32)).setRow w13.heap.size (stL s).toArray) w13.heap.size s) := StAt.row HX19.out
  go_upto_region 8 with (first
    | refine wpList_store_st rfl (.tmp 9) (.tmp 41) rfl w13.heap.size StMath.zero s rfl rfl HX19.out ?_)
  clear HC14 HD15 HA16 HX17 HB18 HX19
  generalize (w13.alloc (.cells #[.int .i64 0, .int .i64 0, .int .i64 0] 32)).setRow w13.heap.size (stL s).toArray = w26 at *
  generalize w13.heap.size = gy at *
  obtain ⟨X_0, X_1, X_2⟩ := HX23.out.cells
  obtain ⟨Y_0, Y_1, Y_2⟩ := HY25.out.cells
  go_upto_region 21 with (fail)
  clear X_0 X_1 X_2 Y_0 Y_1 Y_2
  have HL9 : Hid (∀ m : Grown1 w26, _) := fun m => last_any g c' m.w (HC20.out.later m.below HC20.out.lt)
  unfold stV at HL9
  have hne : Nonempty (Grown1 w26) := ⟨⟨w26, Below.refl _ _⟩⟩
  obtain ⟨D_0, D_1, D_2, D_3, D_4⟩ := HD21.out.cells
  have D_0' := fun m : Grown1 w26 => grown1_cell D_0 m
  have D_1' := fun m : Grown1 w26 => grown1_cell D_1 m
  have D_2' := fun m : Grown1 w26 => grown1_cell D_2 m
  have D_3' := fun m : Grown1 w26 => grown1_cell D_3 m
  have D_4' := fun m : Grown1 w26 => grown1_cell D_4 m
  clear D_0 D_1 D_2 D_3 D_4
  (try dsimp only at HL9 D_0' D_1' D_2' D_3' D_4')
  (try simp only [Act.put])
  refine wp_region_grow (by kernel_rfl) (by kernel_rfl) ?_
  repeat (go_big_quiet_step (first | with_reducible exact grown1_call _ (HL9.out _) | fail))
  refine wpQuiet_nil ?_
  intro _ hw'
  obtain ⟨n1, hw''⟩ := hw'
  subst hw''
  have HC27 : Hid (CkAt n1.w g c') := HC20.out.later n1.below HC20.out.lt
  have HD28 : Hid (RkAt n1.w gd c') := HD21.out.later n1.below HD21.out.lt
  have HA29 : Hid (AcAt n1.w ga a) := HA22.out.later n1.below HA22.out.lt
  have HX30 : Hid (StAt n1.w gx s) := HX23.out.later n1.below HX23.out.lt
  have HY31 : Hid (StAt n1.w gy s) := HY25.out.later n1.below HY25.out.lt
  have HB32 : Hid (Two w n1.w g gd) := HB24.out.below n1.below
  clear HC20 HD21 HA22 HX23 HY25 HB24 D_0' D_1' D_2' D_3' D_4' HL9
  generalize n1.w = w33 at *
  clear hne n1
  go_wp2
  go_ret
  exact ⟨rfl, HC27.out, HD28.out, HB32.out⟩

set_option maxRecDepth 100000 in
set_option maxHeartbeats 16000000 in
theorem play1 (g gd : Nat) (c : Ck) (a : Ac) (w : World) (hne0 : g ≠ gd) (hc : CkAt w g c) (hd : RkAt w gd c) (ho : HlcMath.Ok c) (hk0 : 0 ≤ a.k) (hk1 : a.k ≤ 255) (h6 : a.k % 6 = 1) :
    Calls Try.prog 11 #[.pointer (some ⟨g, 0, none⟩), .pointer (some ⟨gd, 0, none⟩), acV a] w fun e w' => PlayR w g gd (HlcMath.next c a.n) e w' := by
  have HC0 : Hid (CkAt (w.alloc (.cells #[.int .u8 a.k, .int .i64 a.n, .int .i64 a.s.p, .int .i64 a.s.l, .int .i64 a.s.r] 34)) g c) := hc.alloc _
  have HD0 : Hid (RkAt (w.alloc (.cells #[.int .u8 a.k, .int .i64 a.n, .int .i64 a.s.p, .int .i64 a.s.l, .int .i64 a.s.r] 34)) gd c) := hd.alloc _
  have HA0 : Hid (AcAt (w.alloc (.cells #[.int .u8 a.k, .int .i64 a.n, .int .i64 a.s.p, .int .i64 a.s.l, .int .i64 a.s.r] 34)) w.heap.size a) := AcAt.new w a rfl
  have HT0 : Hid (Two w (w.alloc (.cells #[.int .u8 a.k, .int .i64 a.n, .int .i64 a.s.p, .int .i64 a.s.l, .int .i64 a.s.r] 34)) g gd) := (Two.refl w g gd).alloc _
  have hg0 : g < w.heap.size := hc.lt
  have hgd0 : gd < w.heap.size := hd.lt
  have HP : Hid (∀ w, CkAt w g c → _) := fun w hc => next_any g c a.n w hc ho
  have HQ : Hid (∀ w, RkAt w gd c → _) := fun w hc => rnext_any gd c a.n w hc ho
  generalize HlcMath.peek c a.n = se at *
  obtain ⟨s, e⟩ := se
  generalize HlcMath.next c a.n = c' at *
  unfold stV at HP HQ
  dsimp only at HP HQ
  clear hc hd ho
  unfold acV PlayR
  go_enter Try.func11, Try.ntmps11
  go_upto_region 1 with (fail)
  generalize w.alloc (.cells #[.int .u8 a.k, .int .i64 a.n, .int .i64 a.s.p, .int .i64 a.s.l, .int .i64 a.s.r] 34) = w0 at *
  generalize hga : w.heap.size = ga at HA0 hg0 hgd0 ⊢
  obtain ⟨A_0, A_1, A_2, A_3, A_4⟩ := HA0.out.cells
  go_wp2_with fail
  refine Calls.mono (HP.out _ HC0.out) ?_
  rintro e w1 ⟨rfl, hc1, hg1⟩
  have HC2 : Hid (CkAt w1 g c') := hc1
  have HD3 : Hid (RkAt w1 gd c) := HD0.out.grown hg1 (by omega)
  have HA4 : Hid (AcAt w1 ga a) := HA0.out.grown hg1 (by omega)
  have HB5 : Hid (Two w w1 g gd) := HT0.out.left hg1
  clear HC0 HD0 HA0 HT0 hc1 hg1
  clear A_0 A_1 A_2 A_3 A_4
  have HX6 : Hid (StAt (w1.alloc (.cells #[.int .i64 0, .int .i64 0, .int .i64 0] 32)) w1.heap.size StMath.zero) := StAt.new w1 StMath.zero rfl
  have hlt_gx_C : g < w1.heap.size := HC2.out.lt
  have hlt_gx_D : gd < w1.heap.size := HD3.out.lt
  have hlt_gx_A : ga < w1.heap.size := HA4.out.lt
  have hle_gx : w.heap.size ≤ w1.heap.size := HB5.out.size
  have HC7 : Hid (CkAt ((w1.alloc (.cells #[.int .i64 0, .int .i64 0, .int .i64 0] 32)).setRow w1.heap.size (stL s).toArray) g c') := CkAt.row_other (HC2.out.alloc _) _ (by omega)
  have HD8 : Hid (RkAt ((w1.alloc (.cells #[.int .i64 0, .int .i64 0, .int .i64 0] 32)).setRow w1.heap.size (stL s).toArray) gd c) := RkAt.row_other (HD3.out.alloc _) _ (by omega)
  have HA9 : Hid (AcAt ((w1.alloc (.cells #[.int .i64 0, .int .i64 0, .int .i64 0] 32)).setRow w1.heap.size (stL s).toArray) ga a) := AcAt.row_other (HA4.out.alloc _) _ (by omega)
  have HB10 : Hid (Two w ((w1.alloc (.cells #[.int .i64 0, .int .i64 0, .int .i64 0] 32)).setRow w1.heap.size (stL s).toArray) g gd) := (HB5.out.alloc _).new (by omega) _
  have HX11 : Hid (StAt ((w1.alloc (.cells #[.int .i64 0, .int .i64 0, .int .i64 0] 32)).setRow w1.heap.size (stL s).toArray) w1.heap.size s) := StAt.row HX6.out
  go_upto_region 7 with (first
    | refine wpList_store_st rfl (.tmp 7) (.tmp 34) rfl w1.heap.size StMath.zero s rfl rfl HX6.out ?_)
  clear HC2 HD3 HA4 HB5 HX6
  generalize (w1.alloc (.cells #[.int .i64 0, .int .i64 0, .int .i64 0] 32)).setRow w1.heap.size (stL s).toArray = w12 at *
  generalize w1.heap.size = gx at *
  obtain ⟨A_0, A_1, A_2, A_3, A_4⟩ := HA9.out.cells
  go_wp2_with fail
  refine Calls.mono (HQ.out _ HD8.out) ?_
  rintro e w13 ⟨rfl, hc13, hg13⟩
  have HC14 : Hid (CkAt w13 g c') := HC7.out.grown hg13 (by omega)
  have HD15 : Hid (RkAt w13 gd c') := hc13
  have HA16 : Hid (AcAt w13 ga a) := HA9.out.grown hg13 (by omega)
  have HX17 : Hid (StAt w13 gx s) := HX11.out.grown hg13 (by omega)
  have HB18 : Hid (Two w w13 g gd) := HB10.out.right hg13
  clear HC7 HD8 HA9 HX11 HB10 hc13 hg13
  clear A_0 A_1 A_2 A_3 A_4
  have HX19 : Hid (StAt (w13.alloc (.cells #[.int .i64 0, .int .i64 0, .int .i64 0] 32)) w13.heap.size StMath.zero) := StAt.new w13 StMath.zero rfl
  have hlt_gy_C : g < w13.heap.size := HC14.out.lt
  have hlt_gy_D : gd < w13.heap.size := HD15.out.lt
  have hlt_gy_A : ga < w13.heap.size := HA16.out.lt
  have hlt_gy_X : gx < w13.heap.size := HX17.out.lt
  have hle_gy : w.heap.size ≤ w13.heap.size := HB18.out.size
  have HC20 : Hid (CkAt ((w13.alloc (.cells #[.int .i64 0, .int .i64 0, .int .i64 0] 32)).setRow w13.heap.size (stL s).toArray) g c') := CkAt.row_other (HC14.out.alloc _) _ (by omega)
  have HD21 : Hid (RkAt ((w13.alloc (.cells #[.int .i64 0, .int .i64 0, .int .i64 0] 32)).setRow w13.heap.size (stL s).toArray) gd c') := RkAt.row_other (HD15.out.alloc _) _ (by omega)
  have HA22 : Hid (AcAt ((w13.alloc (.cells #[.int .i64 0, .int .i64 0, .int .i64 0] 32)).setRow w13.heap.size (stL s).toArray) ga a) := AcAt.row_other (HA16.out.alloc _) _ (by omega)
  have HX23 : Hid (StAt ((w13.alloc (.cells #[.int .i64 0, .int .i64 0, .int .i64 0] 32)).setRow w13.heap.size (stL s).toArray) gx s) := StAt.row_other (HX17.out.alloc _) _ (by omega)
  have HB24 : Hid (Two w ((w13.alloc (.cells #[.int .i64 0, .int .i64 0, .int .i64 0] 32)).setRow w13.heap.size (stL s).toArray) g gd) := (HB18.out.alloc _).new (by omega) _
  have HY25 : Hid (StAt ((w13.alloc (.cells #[.int .i64 0, .int .i64 0, .int .i64 0] 32)).setRow w13.heap.size (stL s).toArray) w13.heap.size s) := StAt.row HX19.out
  go_upto_region 8 with (first
    | refine wpList_store_st rfl (.tmp 9) (.tmp 41) rfl w13.heap.size StMath.zero s rfl rfl HX19.out ?_)
  clear HC14 HD15 HA16 HX17 HB18 HX19
  generalize (w13.alloc (.cells #[.int .i64 0, .int .i64 0, .int .i64 0] 32)).setRow w13.heap.size (stL s).toArray = w26 at *
  generalize w13.heap.size = gy at *
  obtain ⟨X_0, X_1, X_2⟩ := HX23.out.cells
  obtain ⟨Y_0, Y_1, Y_2⟩ := HY25.out.cells
  go_upto_region 21 with (fail)
  clear X_0 X_1 X_2 Y_0 Y_1 Y_2
  have HL9 : Hid (∀ m : Grown1 w26, _) := fun m => last_any g c' m.w (HC20.out.later m.below HC20.out.lt)
  unfold stV at HL9
  have hne : Nonempty (Grown1 w26) := ⟨⟨w26, Below.refl _ _⟩⟩
  obtain ⟨D_0, D_1, D_2, D_3, D_4⟩ := HD21.out.cells
  have D_0' := fun m : Grown1 w26 => grown1_cell D_0 m
  have D_1' := fun m : Grown1 w26 => grown1_cell D_1 m
  have D_2' := fun m : Grown1 w26 => grown1_cell D_2 m
  have D_3' := fun m : Grown1 w26 => grown1_cell D_3 m
  have D_4' := fun m : Grown1 w26 => grown1_cell D_4 m
  clear D_0 D_1 D_2 D_3 D_4
  (try dsimp only at HL9 D_0' D_1' D_2' D_3' D_4')
  (try simp only [Act.put])
  refine wp_region_grow (by kernel_rfl) (by kernel_rfl) ?_
  repeat (go_big_quiet_step (first | with_reducible exact grown1_call _ (HL9.out _) | fail))
  refine wpQuiet_nil ?_
  intro _ hw'
  obtain ⟨n1, hw''⟩ := hw'
  subst hw''
  have HC27 : Hid (CkAt n1.w g c') := HC20.out.later n1.below HC20.out.lt
  have HD28 : Hid (RkAt n1.w gd c') := HD21.out.later n1.below HD21.out.lt
  have HA29 : Hid (AcAt n1.w ga a) := HA22.out.later n1.below HA22.out.lt
  have HX30 : Hid (StAt n1.w gx s) := HX23.out.later n1.below HX23.out.lt
  have HY31 : Hid (StAt n1.w gy s) := HY25.out.later n1.below HY25.out.lt
  have HB32 : Hid (Two w n1.w g gd) := HB24.out.below n1.below
  clear HC20 HD21 HA22 HX23 HY25 HB24 D_0' D_1' D_2' D_3' D_4' HL9
  generalize n1.w = w33 at *
  clear hne n1
  go_wp2
  go_ret
  exact ⟨rfl, HC27.out, HD28.out, HB32.out⟩

set_option maxRecDepth 100000 in
set_option maxHeartbeats 16000000 in
theorem play2 (g gd : Nat) (c : Ck) (a : Ac) (w : World) (hne0 : g ≠ gd) (hc : CkAt w g c) (hd : RkAt w gd c) (ho : HlcMath.Ok c) (hk0 : 0 ≤ a.k) (hk1 : a.k ≤ 255) (h6 : a.k % 6 = 2) :
    Calls Try.prog 11 #[.pointer (some ⟨g, 0, none⟩), .pointer (some ⟨gd, 0, none⟩), acV a] w fun e w' => PlayR w g gd (c) e w' := by
  have HC0 : Hid (CkAt (w.alloc (.cells #[.int .u8 a.k, .int .i64 a.n, .int .i64 a.s.p, .int .i64 a.s.l, .int .i64 a.s.r] 34)) g c) := hc.alloc _
  have HD0 : Hid (RkAt (w.alloc (.cells #[.int .u8 a.k, .int .i64 a.n, .int .i64 a.s.p, .int .i64 a.s.l, .int .i64 a.s.r] 34)) gd c) := hd.alloc _
  have HA0 : Hid (AcAt (w.alloc (.cells #[.int .u8 a.k, .int .i64 a.n, .int .i64 a.s.p, .int .i64 a.s.l, .int .i64 a.s.r] 34)) w.heap.size a) := AcAt.new w a rfl
  have HT0 : Hid (Two w (w.alloc (.cells #[.int .u8 a.k, .int .i64 a.n, .int .i64 a.s.p, .int .i64 a.s.l, .int .i64 a.s.r] 34)) g gd) := (Two.refl w g gd).alloc _
  have hg0 : g < w.heap.size := hc.lt
  have hgd0 : gd < w.heap.size := hd.lt
  have HP : Hid (∀ w, CkAt w g c → _) := fun w hc => peek_any g c a.n w hc ho
  have HQ : Hid (∀ w, RkAt w gd c → _) := fun w hc => rpeek_any gd c a.n w hc ho
  generalize HlcMath.peek c a.n = se at *
  obtain ⟨s, e⟩ := se
  unfold stV at HP HQ
  dsimp only at HP HQ
  clear hc hd ho
  unfold acV PlayR
  go_enter Try.func11, Try.ntmps11
  go_upto_region 1 with (fail)
  generalize w.alloc (.cells #[.int .u8 a.k, .int .i64 a.n, .int .i64 a.s.p, .int .i64 a.s.l, .int .i64 a.s.r] 34) = w0 at *
  generalize hga : w.heap.size = ga at HA0 hg0 hgd0 ⊢
  obtain ⟨A_0, A_1, A_2, A_3, A_4⟩ := HA0.out.cells
  go_wp2_with fail
  refine Calls.mono (HP.out _ HC0.out) ?_
  rintro e w1 ⟨rfl, hb1⟩
  have HC2 : Hid (CkAt w1 g c) := HC0.out.later hb1 HC0.out.lt
  have HD3 : Hid (RkAt w1 gd c) := HD0.out.later hb1 HD0.out.lt
  have HA4 : Hid (AcAt w1 ga a) := HA0.out.later hb1 HA0.out.lt
  have HB5 : Hid (Two w w1 g gd) := HT0.out.below hb1
  clear HC0 HD0 HA0 HT0 hb1
  clear A_0 A_1 A_2 A_3 A_4
  have HX6 : Hid (StAt (w1.alloc (.cells #[.int .i64 0, .int .i64 0, .int .i64 0] 32)) w1.heap.size StMath.zero) := StAt.new w1 StMath.zero rfl
  have hlt_gx_C : g < w1.heap.size := HC2.out.lt
  have hlt_gx_D : gd < w1.heap.size := HD3.out.lt
  have hlt_gx_A : ga < w1.heap.size := HA4.out.lt
  have hle_gx : w.heap.size ≤ w1.heap.size := HB5.out.size
  have HC7 : Hid (CkAt ((w1.alloc (.cells #[.int .i64 0, .int .i64 0, .int .i64 0] 32)).setRow w1.heap.size (stL s).toArray) g c) := CkAt.row_other (HC2.out.alloc _) _ (by omega)
  have HD8 : Hid (RkAt ((w1.alloc (.cells #[.int .i64 0, .int .i64 0, .int .i64 0] 32)).setRow w1.heap.size (stL s).toArray) gd c) := RkAt.row_other (HD3.out.alloc _) _ (by omega)
  have HA9 : Hid (AcAt ((w1.alloc (.cells #[.int .i64 0, .int .i64 0, .int .i64 0] 32)).setRow w1.heap.size (stL s).toArray) ga a) := AcAt.row_other (HA4.out.alloc _) _ (by omega)
  have HB10 : Hid (Two w ((w1.alloc (.cells #[.int .i64 0, .int .i64 0, .int .i64 0] 32)).setRow w1.heap.size (stL s).toArray) g gd) := (HB5.out.alloc _).new (by omega) _
  have HX11 : Hid (StAt ((w1.alloc (.cells #[.int .i64 0, .int .i64 0, .int .i64 0] 32)).setRow w1.heap.size (stL s).toArray) w1.heap.size s) := StAt.row HX6.out
  go_upto_region 12 with (first
    | refine wpList_store_st rfl (.tmp 11) (.tmp 58) rfl w1.heap.size StMath.zero s rfl rfl HX6.out ?_)
  clear HC2 HD3 HA4 HB5 HX6
  generalize (w1.alloc (.cells #[.int .i64 0, .int .i64 0, .int .i64 0] 32)).setRow w1.heap.size (stL s).toArray = w12 at *
  generalize w1.heap.size = gx at *
  obtain ⟨A_0, A_1, A_2, A_3, A_4⟩ := HA9.out.cells
  go_wp2_with fail
  refine Calls.mono (HQ.out _ HD8.out) ?_
  rintro e w13 ⟨rfl, hb13⟩
  have HC14 : Hid (CkAt w13 g c) := HC7.out.later hb13 HC7.out.lt
  have HD15 : Hid (RkAt w13 gd c) := HD8.out.later hb13 HD8.out.lt
  have HA16 : Hid (AcAt w13 ga a) := HA9.out.later hb13 HA9.out.lt
  have HX17 : Hid (StAt w13 gx s) := HX11.out.later hb13 HX11.out.lt
  have HB18 : Hid (Two w w13 g gd) := HB10.out.below hb13
  clear HC7 HD8 HA9 HX11 HB10 hb13
  clear A_0 A_1 A_2 A_3 A_4
  have HX19 : Hid (StAt (w13.alloc (.cells #[.int .i64 0, .int .i64 0, .int .i64 0] 32)) w13.heap.size StMath.zero) := StAt.new w13 StMath.zero rfl
  have hlt_gy_C : g < w13.heap.size := HC14.out.lt
  have hlt_gy_D : gd < w13.heap.size := HD15.out.lt
  have hlt_gy_A : ga < w13.heap.size := HA16.out.lt
  have hlt_gy_X : gx < w13.heap.size := HX17.out.lt
  have hle_gy : w.heap.size ≤ w13.heap.size := HB18.out.size
  have HC20 : Hid (CkAt ((w13.alloc (.cells #[.int .i64 0, .int .i64 0, .int .i64 0] 32)).setRow w13.heap.size (stL s).toArray) g c) := CkAt.row_other (HC14.out.alloc _) _ (by omega)
  have HD21 : Hid (RkAt ((w13.alloc (.cells #[.int .i64 0, .int .i64 0, .int .i64 0] 32)).setRow w13.heap.size (stL s).toArray) gd c) := RkAt.row_other (HD15.out.alloc _) _ (by omega)
  have HA22 : Hid (AcAt ((w13.alloc (.cells #[.int .i64 0, .int .i64 0, .int .i64 0] 32)).setRow w13.heap.size (stL s).toArray) ga a) := AcAt.row_other (HA16.out.alloc _) _ (by omega)
  have HX23 : Hid (StAt ((w13.alloc (.cells #[.int .i64 0, .int .i64 0, .int .i64 0] 32)).setRow w13.heap.size (stL s).toArray) gx s) := StAt.row_other (HX17.out.alloc _) _ (by omega)
  have HB24 : Hid (Two w ((w13.alloc (.cells #[.int .i64 0, .int .i64 0, .int .i64 0] 32)).setRow w13.heap.size (stL s).toArray) g gd) := (HB18.out.alloc _).new (by omega) _
  have HY25 : Hid (StAt ((w13.alloc (.cells #[.int .i64 0, .int .i64 0, .int .i64 0] 32)).setRow w13.heap.size (stL s).toArray) w13.heap.size s) := StAt.row HX19.out
  go_upto_region 13 with (first
    | refine wpList_store_st rfl (.tmp 13) (.tmp 65) rfl w13.heap.size StMath.zero s rfl rfl HX19.out ?_)
  clear HC14 HD15 HA16 HX17 HB18 HX19
  generalize (w13.alloc (.cells #[.int .i64 0, .int .i64 0, .int .i64 0] 32)).setRow w13.heap.size (stL s).toArray = w26 at *
  generalize w13.heap.size = gy at *
  obtain ⟨X_0, X_1, X_2⟩ := HX23.out.cells
  obtain ⟨Y_0, Y_1, Y_2⟩ := HY25.out.cells
  go_upto_region 21 with (fail)
  clear X_0 X_1 X_2 Y_0 Y_1 Y_2
  have HL9 : Hid (∀ m : Grown1 w26, _) := fun m => last_any g c m.w (HC20.out.later m.below HC20.out.lt)
  unfold stV at HL9
  have hne : Nonempty (Grown1 w26) := ⟨⟨w26, Below.refl _ _⟩⟩
  obtain ⟨D_0, D_1, D_2, D_3, D_4⟩ := HD21.out.cells
  have D_0' := fun m : Grown1 w26 => grown1_cell D_0 m
  have D_1' := fun m : Grown1 w26 => grown1_cell D_1 m
  have D_2' := fun m : Grown1 w26 => grown1_cell D_2 m
  have D_3' := fun m : Grown1 w26 => grown1_cell D_3 m
  have D_4' := fun m : Grown1 w26 => grown1_cell D_4 m
  clear D_0 D_1 D_2 D_3 D_4
  (try dsimp only at HL9 D_0' D_1' D_2' D_3' D_4')
  (try simp only [Act.put])
  refine wp_region_grow (by kernel_rfl) (by kernel_rfl) ?_
  repeat (go_big_quiet_step (first | with_reducible exact grown1_call _ (HL9.out _) | fail))
  refine wpQuiet_nil ?_
  intro _ hw'
  obtain ⟨n1, hw''⟩ := hw'
  subst hw''
  have HC27 : Hid (CkAt n1.w g c) := HC20.out.later n1.below HC20.out.lt
  have HD28 : Hid (RkAt n1.w gd c) := HD21.out.later n1.below HD21.out.lt
  have HA29 : Hid (AcAt n1.w ga a) := HA22.out.later n1.below HA22.out.lt
  have HX30 : Hid (StAt n1.w gx s) := HX23.out.later n1.below HX23.out.lt
  have HY31 : Hid (StAt n1.w gy s) := HY25.out.later n1.below HY25.out.lt
  have HB32 : Hid (Two w n1.w g gd) := HB24.out.below n1.below
  clear HC20 HD21 HA22 HX23 HY25 HB24 D_0' D_1' D_2' D_3' D_4' HL9
  generalize n1.w = w33 at *
  clear hne n1
  go_wp2
  go_ret
  exact ⟨rfl, HC27.out, HD28.out, HB32.out⟩

set_option maxRecDepth 100000 in
set_option maxHeartbeats 16000000 in
theorem play3 (g gd : Nat) (c : Ck) (a : Ac) (w : World) (hne0 : g ≠ gd) (hc : CkAt w g c) (hd : RkAt w gd c) (ho : HlcMath.Ok c) (hk0 : 0 ≤ a.k) (hk1 : a.k ≤ 255) (h6 : a.k % 6 = 3) :
    Calls Try.prog 11 #[.pointer (some ⟨g, 0, none⟩), .pointer (some ⟨gd, 0, none⟩), acV a] w fun e w' => PlayR w g gd (c) e w' := by
  have HC0 : Hid (CkAt (w.alloc (.cells #[.int .u8 a.k, .int .i64 a.n, .int .i64 a.s.p, .int .i64 a.s.l, .int .i64 a.s.r] 34)) g c) := hc.alloc _
  have HD0 : Hid (RkAt (w.alloc (.cells #[.int .u8 a.k, .int .i64 a.n, .int .i64 a.s.p, .int .i64 a.s.l, .int .i64 a.s.r] 34)) gd c) := hd.alloc _
  have HA0 : Hid (AcAt (w.alloc (.cells #[.int .u8 a.k, .int .i64 a.n, .int .i64 a.s.p, .int .i64 a.s.l, .int .i64 a.s.r] 34)) w.heap.size a) := AcAt.new w a rfl
  have HT0 : Hid (Two w (w.alloc (.cells #[.int .u8 a.k, .int .i64 a.n, .int .i64 a.s.p, .int .i64 a.s.l, .int .i64 a.s.r] 34)) g gd) := (Two.refl w g gd).alloc _
  have hg0 : g < w.heap.size := hc.lt
  have hgd0 : gd < w.heap.size := hd.lt
  have HP : Hid (∀ w, CkAt w g c → _) := fun w hc => check_any g c a.n a.s w hc ho
  have HQ : Hid (∀ w, RkAt w gd c → _) := fun w hc => rcheck_any gd c a.n a.s w hc ho
  generalize HlcMath.check c a.n a.s = e at *
  unfold stV at HP HQ
  clear hc hd ho
  unfold acV PlayR
  go_enter Try.func11, Try.ntmps11
  go_upto_region 1 with (fail)
  generalize w.alloc (.cells #[.int .u8 a.k, .int .i64 a.n, .int .i64 a.s.p, .int .i64 a.s.l, .int .i64 a.s.r] 34) = w0 at *
  generalize hga : w.heap.size = ga at HA0 hg0 hgd0 ⊢
  obtain ⟨A_0, A_1, A_2, A_3, A_4⟩ := HA0.out.cells
  go_wp2_with fail
  clear A_0 A_1 A_2 A_3 A_4
  have HPm : Hid (∀ m : Grown1 w0, _) := fun m => HP.out m.w (HC0.out.later m.below HC0.out.lt)
  have HQm : Hid (∀ m : Grown1 w0, _) := fun m => HQ.out m.w (HD0.out.later m.below HD0.out.lt)
  have hne : Nonempty (Grown1 w0) := ⟨⟨w0, Below.refl _ _⟩⟩
  obtain ⟨A_0, A_1, A_2, A_3, A_4⟩ := HA0.out.cells
  have A_0' := fun m : Grown1 w0 => grown1_cell A_0 m
  have A_1' := fun m : Grown1 w0 => grown1_cell A_1 m
  have A_2' := fun m : Grown1 w0 => grown1_cell A_2 m
  have A_3' := fun m : Grown1 w0 => grown1_cell A_3 m
  have A_4' := fun m : Grown1 w0 => grown1_cell A_4 m
  clear A_0 A_1 A_2 A_3 A_4
  (try simp only [Act.put])
  refine wp_region_grow (by kernel_rfl) (by kernel_rfl) ?_
  repeat (go_big_quiet_step (first | with_reducible exact grown1_call _ (HPm.out _) | with_reducible exact grown1_call _ (HQm.out _) | fail))
  refine wpQuiet_nil ?_
  intro _ hw'
  obtain ⟨n1, hw''⟩ := hw'
  subst hw''
  have HC1 : Hid (CkAt n1.w g c) := HC0.out.later n1.below HC0.out.lt
  have HD2 : Hid (RkAt n1.w gd c) := HD0.out.later n1.below HD0.out.lt
  have HA3 : Hid (AcAt n1.w ga a) := HA0.out.later n1.below HA0.out.lt
  have HB4 : Hid (Two w n1.w g gd) := HT0.out.below n1.below
  clear HC0 HD0 HA0 HT0 A_0' A_1' A_2' A_3' A_4' HPm HQm
  generalize n1.w = w5 at *
  clear hne n1
  go_upto_region 21 with (fail)
  have HL9 : Hid (∀ m : Grown1 w5, _) := fun m => last_any g c m.w (HC1.out.later m.below HC1.out.lt)
  unfold stV at HL9
  have hne : Nonempty (Grown1 w5) := ⟨⟨w5, Below.refl _ _⟩⟩
  obtain ⟨D_0, D_1, D_2, D_3, D_4⟩ := HD2.out.cells
  have D_0' := fun m : Grown1 w5 => grown1_cell D_0 m
  have D_1' := fun m : Grown1 w5 => grown1_cell D_1 m
  have D_2' := fun m : Grown1 w5 => grown1_cell D_2 m
  have D_3' := fun m : Grown1 w5 => grown1_cell D_3 m
  have D_4' := fun m : Grown1 w5 => grown1_cell D_4 m
  clear D_0 D_1 D_2 D_3 D_4
  (try dsimp only at HL9 D_0' D_1' D_2' D_3' D_4')
  (try simp only [Act.put])
  refine wp_region_grow (by kernel_rfl) (by kernel_rfl) ?_
  repeat (go_big_quiet_step (first | with_reducible exact grown1_call _ (HL9.out _) | fail))
  refine wpQuiet_nil ?_
  intro _ hw'
  obtain ⟨n1, hw''⟩ := hw'
  subst hw''
  have HC6 : Hid (CkAt n1.w g c) := HC1.out.later n1.below HC1.out.lt
  have HD7 : Hid (RkAt n1.w gd c) := HD2.out.later n1.below HD2.out.lt
  have HA8 : Hid (AcAt n1.w ga a) := HA3.out.later n1.below HA3.out.lt
  have HB9 : Hid (Two w n1.w g gd) := HB4.out.below n1.below
  clear HC1 HD2 HA3 HB4 D_0' D_1' D_2' D_3' D_4' HL9
  generalize n1.w = w10 at *
  clear hne n1
  go_wp2
  go_ret
  exact ⟨rfl, HC6.out, HD7.out, HB9.out⟩

set_option maxRecDepth 100000 in
set_option maxHeartbeats 16000000 in
theorem play4 (g gd : Nat) (c : Ck) (a : Ac) (w : World) (hne0 : g ≠ gd) (hc : CkAt w g c) (hd : RkAt w gd c) (ho : HlcMath.Ok c) (hk0 : 0 ≤ a.k) (hk1 : a.k ≤ 255) (h6 : a.k % 6 = 4) :
    Calls Try.prog 11 #[.pointer (some ⟨g, 0, none⟩), .pointer (some ⟨gd, 0, none⟩), acV a] w fun e w' => PlayR w g gd (HlcMath.witness c a.n a.s) e w' := by
  have HC0 : Hid (CkAt (w.alloc (.cells #[.int .u8 a.k, .int .i64 a.n, .int .i64 a.s.p, .int .i64 a.s.l, .int .i64 a.s.r] 34)) g c) := hc.alloc _
  have HD0 : Hid (RkAt (w.alloc (.cells #[.int .u8 a.k, .int .i64 a.n, .int .i64 a.s.p, .int .i64 a.s.l, .int .i64 a.s.r] 34)) gd c) := hd.alloc _
  have HA0 : Hid (AcAt (w.alloc (.cells #[.int .u8 a.k, .int .i64 a.n, .int .i64 a.s.p, .int .i64 a.s.l, .int .i64 a.s.r] 34)) w.heap.size a) := AcAt.new w a rfl
  have HT0 : Hid (Two w (w.alloc (.cells #[.int .u8 a.k, .int .i64 a.n, .int .i64 a.s.p, .int .i64 a.s.l, .int .i64 a.s.r] 34)) g gd) := (Two.refl w g gd).alloc _
  have hg0 : g < w.heap.size := hc.lt
  have hgd0 : gd < w.heap.size := hd.lt
  have HP : Hid (∀ w, CkAt w g c → _) := fun w hc => witness_any g c a.n a.s w hc ho
  have HQ : Hid (∀ w, RkAt w gd c → _) := fun w hc => rwitness_any gd c a.n a.s w hc ho
  generalize HlcMath.check c a.n a.s = e at *
  generalize HlcMath.witness c a.n a.s = c' at *
  unfold stV at HP HQ
  clear hc hd ho
  unfold acV PlayR
  go_enter Try.func11, Try.ntmps11
  go_upto_region 1 with (fail)
  generalize w.alloc (.cells #[.int .u8 a.k, .int .i64 a.n, .int .i64 a.s.p, .int .i64 a.s.l, .int .i64 a.s.r] 34) = w0 at *
  generalize hga : w.heap.size = ga at HA0 hg0 hgd0 ⊢
  obtain ⟨A_0, A_1, A_2, A_3, A_4⟩ := HA0.out.cells
  go_wp2_with fail
  clear A_0 A_1 A_2 A_3 A_4
  have HC1 : Hid (CkAt w0.drew g c) := HC0.out.drew
  have HD2 : Hid (RkAt w0.drew gd c) := HD0.out.drew
  have HA3 : Hid (AcAt w0.drew ga a) := HA0.out.drew
  have HB4 : Hid (Two w w0.drew g gd) := HT0.out.drew
  clear HC0 HD0 HA0 HT0
  obtain ⟨A_0, A_1, A_2, A_3, A_4⟩ := HA3.out.cells
  refine wp_region_held_drew (S := fun w' => w'.cell? ⟨ga, 1, none⟩ = some (.int .i64 a.n) ∧ w'.cell? ⟨ga, 2, none⟩ = some (.int .i64 a.s.p) ∧ w'.cell? ⟨ga, 3, none⟩ = some (.int .i64 a.s.l) ∧ w'.cell? ⟨ga, 4, none⟩ = some (.int .i64 a.s.r)) (by kernel_rfl) ⟨A_1, A_2, A_3, A_4⟩ (fun hS => ?_)
  clear A_0 A_1 A_2 A_3 A_4
  refine wpAnyH_take (i := 0) (v := ?_) rfl (by kernel_rfl) (by kernel_rfl) (by kernel_rfl) (fun _ _ _ h => h) (Or.inl ⟨by rfl, ?_⟩) hS ?_
  rotate_left 1
  · intro w hSw; (try dsimp only at hSw); go_simp <;> with_reducible rfl
  simp only [List.getElem_toArray, List.getElem_cons_zero, List.getElem_cons_succ, Act.put, List.setIfInBounds_toArray, List.set_cons_zero, List.set_cons_succ]
  refine wpAnyH_take (i := 1) (v := ?_) rfl (by kernel_rfl) (by kernel_rfl) (by kernel_rfl) (fun _ _ _ h => h) (Or.inl ⟨by rfl, ?_⟩) hS ?_
  rotate_left 1
  · intro w hSw; (try dsimp only at hSw); go_simp <;> with_reducible rfl
  simp only [List.getElem_toArray, List.getElem_cons_zero, List.getElem_cons_succ, Act.put, List.setIfInBounds_toArray, List.set_cons_zero, List.set_cons_succ]
  refine wpAnyH_take (i := 2) (v := ?_) rfl (by kernel_rfl) (by kernel_rfl) (by kernel_rfl) (fun _ _ _ h => h) (Or.inl ⟨by rfl, ?_⟩) hS ?_
  rotate_left 1
  · intro w hSw; (try dsimp only at hSw); go_simp <;> with_reducible rfl
  simp only [List.getElem_toArray, List.getElem_cons_zero, List.getElem_cons_succ, Act.put, List.setIfInBounds_toArray, List.set_cons_zero, List.set_cons_succ]
  refine wpAnyH_take (i := 3) (v := ?_) rfl (by kernel_rfl) (by kernel_rfl) (by kernel_rfl) (fun _ _ _ h => h) (Or.inl ⟨by rfl, ?_⟩) hS ?_
  rotate_left 1
  · intro w hSw; (try dsimp only at hSw); go_simp <;> with_reducible rfl
  simp only [List.getElem_toArray, List.getElem_cons_zero, List.getElem_cons_succ, Act.put, List.setIfInBounds_toArray, List.set_cons_zero, List.set_cons_succ]
  refine wpAnyH_take (i := 4) (v := ?_) rfl (by kernel_rfl) (by kernel_rfl) (by kernel_rfl) (fun _ _ _ h => h) (Or.inl ⟨by rfl, ?_⟩) hS ?_
  rotate_left 1
  · intro w hSw; (try dsimp only at hSw); go_simp <;> with_reducible rfl
  simp only [List.getElem_toArray, List.getElem_cons_zero, List.getElem_cons_succ, Act.put, List.setIfInBounds_toArray, List.set_cons_zero, List.set_cons_succ]
  refine wpAnyH_take (i := 6) (v := ?_) rfl (by kernel_rfl) (by kernel_rfl) (by kernel_rfl) (fun _ _ _ h => h) (Or.inl ⟨by rfl, ?_⟩) hS ?_
  rotate_left 1
  · intro w hSw; (try dsimp only at hSw); go_simp <;> with_reducible rfl
  simp only [List.getElem_toArray, List.getElem_cons_zero, List.getElem_cons_succ, Act.put, List.setIfInBounds_toArray, List.set_cons_zero, List.set_cons_succ]
  refine wpAnyH_take (i := 7) (v := ?_) rfl (by kernel_rfl) (by kernel_rfl) (by kernel_rfl) (fun _ _ _ h => h) (Or.inl ⟨by rfl, ?_⟩) hS ?_
  rotate_left 1
  · intro w hSw; (try dsimp only at hSw); go_simp <;> with_reducible rfl
  simp only [List.getElem_toArray, List.getElem_cons_zero, List.getElem_cons_succ, Act.put, List.setIfInBounds_toArray, List.set_cons_zero, List.set_cons_succ]
  refine wpAnyH_take (i := 8) (v := ?_) rfl (by kernel_rfl) (by kernel_rfl) (by kernel_rfl) (fun _ _ _ h => h) (Or.inl ⟨by rfl, ?_⟩) hS ?_
  rotate_left 1
  · intro w hSw; (try dsimp only at hSw); go_simp <;> with_reducible rfl
  simp only [List.getElem_toArray, List.getElem_cons_zero, List.getElem_cons_succ, Act.put, List.setIfInBounds_toArray, List.set_cons_zero, List.set_cons_succ]
  refine wpAnyH_take (i := 9) (v := ?_) rfl (by kernel_rfl) (by kernel_rfl) (by kernel_rfl) (fun _ _ _ h => h) (Or.inl ⟨by rfl, ?_⟩) hS ?_
  rotate_left 1
  · intro w hSw; (try dsimp only at hSw); go_simp <;> with_reducible rfl
  simp only [List.getElem_toArray, List.getElem_cons_zero, List.getElem_cons_succ, Act.put, List.setIfInBounds_toArray, List.set_cons_zero, List.set_cons_succ]
  refine wpAnyH_take (i := 10) (v := ?_) rfl (by kernel_rfl) (by kernel_rfl) (by kernel_rfl) (fun _ _ _ h => h) (Or.inl ⟨by rfl, ?_⟩) hS ?_
  rotate_left 1
  · intro w hSw; (try dsimp only at hSw); go_simp <;> with_reducible rfl
  simp only [List.getElem_toArray, List.getElem_cons_zero, List.getElem_cons_succ, Act.put, List.setIfInBounds_toArray, List.set_cons_zero, List.set_cons_succ]
  refine wpAnyH_ready (rs := [5]) (by kernel_rfl) (by simp) ?_
  refine AllReadyH.cons rfl (fun K hK => ?_) AllReadyH.nil
  go_simp
  refine Calls.mono (HP.out _ HC1.out) ?_
  rintro e v1 ⟨rfl, hc1, hg1⟩
  have HC5 : Hid (CkAt v1 g c') := hc1
  have HD6 : Hid (RkAt v1 gd c) := HD2.out.grown hg1 (by omega)
  have HA7 : Hid (AcAt v1 ga a) := HA3.out.grown hg1 (by omega)
  have HB8 : Hid (Two w v1 g gd) := HB4.out.left hg1
  clear HC1 HD2 HA3 HB4 hc1 hg1
  refine hK.out _ _ ⟨HA7.out.cells.2.1, HA7.out.cells.2.2.1, HA7.out.cells.2.2.2.1, HA7.out.cells.2.2.2.2⟩ (fun hS => ?_)
  clear hK K
  refine wpAnyH_ready (rs := [11]) (by kernel_rfl) (by simp) ?_
  refine AllReadyH.cons rfl (fun K hK => ?_) AllReadyH.nil
  go_simp
  refine Calls.mono (HQ.out _ HD6.out) ?_
  rintro e v2 ⟨rfl, hc2, hg2⟩
  have HC9 : Hid (CkAt v2 g c') := HC5.out.grown hg2 (by omega)
  have HD10 : Hid (RkAt v2 gd c') := hc2
  have HA11 : Hid (AcAt v2 ga a) := HA7.out.grown hg2 (by omega)
  have HB12 : Hid (Two w v2 g gd) := HB8.out.right hg2
  clear HC5 HD6 HA7 HB8 hc2 hg2
  refine hK.out _ _ ⟨HA11.out.cells.2.1, HA11.out.cells.2.2.1, HA11.out.cells.2.2.2.1, HA11.out.cells.2.2.2.2⟩ (fun hS => ?_)
  clear hK K
  refine wpAnyH_take (i := 12) (v := ?_) rfl (by kernel_rfl) (by kernel_rfl) (by kernel_rfl) (fun _ _ _ h => h) (Or.inl ⟨by rfl, ?_⟩) hS ?_
  rotate_left 1
  · intro w hSw; (try dsimp only at hSw); go_simp <;> with_reducible rfl
  simp only [List.getElem_toArray, List.getElem_cons_zero, List.getElem_cons_succ, Act.put, List.setIfInBounds_toArray, List.set_cons_zero, List.set_cons_succ]
  refine wpAnyH_done (by kernel_rfl) ?_ _
  go_upto_region 21 with (fail)
  have HL9 : Hid (∀ m : Grown1 v2, _) := fun m => last_any g c' m.w (HC9.out.later m.below HC9.out.lt)
  unfold stV at HL9
  have hne : Nonempty (Grown1 v2) := ⟨⟨v2, Below.refl _ _⟩⟩
  obtain ⟨D_0, D_1, D_2, D_3, D_4⟩ := HD10.out.cells
  have D_0' := fun m : Grown1 v2 => grown1_cell D_0 m
  have D_1' := fun m : Grown1 v2 => grown1_cell D_1 m
  have D_2' := fun m : Grown1 v2 => grown1_cell D_2 m
  have D_3' := fun m : Grown1 v2 => grown1_cell D_3 m
  have D_4' := fun m : Grown1 v2 => grown1_cell D_4 m
  clear D_0 D_1 D_2 D_3 D_4
  (try dsimp only at HL9 D_0' D_1' D_2' D_3' D_4')
  (try simp only [Act.put])
  refine wp_region_grow (by kernel_rfl) (by kernel_rfl) ?_
  repeat (go_big_quiet_step (first | with_reducible exact grown1_call _ (HL9.out _) | fail))
  refine wpQuiet_nil ?_
  intro _ hw'
  obtain ⟨n1, hw''⟩ := hw'
  subst hw''
  have HC13 : Hid (CkAt n1.w g c') := HC9.out.later n1.below HC9.out.lt
  have HD14 : Hid (RkAt n1.w gd c') := HD10.out.later n1.below HD10.out.lt
  have HA15 : Hid (AcAt n1.w ga a) := HA11.out.later n1.below HA11.out.lt
  have HB16 : Hid (Two w n1.w g gd) := HB12.out.below n1.below
  clear HC9 HD10 HA11 HB12 D_0' D_1' D_2' D_3' D_4' HL9
  generalize n1.w = w17 at *
  clear hne n1
  go_wp2
  go_ret
  exact ⟨rfl, HC13.out, HD14.out, HB16.out⟩

set_option maxRecDepth 100000 in
set_option maxHeartbeats 16000000 in
theorem play5 (g gd : Nat) (c : Ck) (a : Ac) (w : World) (hne0 : g ≠ gd) (hc : CkAt w g c) (hd : RkAt w gd c) (ho : HlcMath.Ok c) (hk0 : 0 ≤ a.k) (hk1 : a.k ≤ 255) (h6 : a.k % 6 = 5) :
    Calls Try.prog 11 #[.pointer (some ⟨g, 0, none⟩), .pointer (some ⟨gd, 0, none⟩), acV a] w fun e w' => PlayR w g gd (HlcMath.floor c a.n) e w' := by
  have HC0 : Hid (CkAt (w.alloc (.cells #[.int .u8 a.k, .int .i64 a.n, .int .i64 a.s.p, .int .i64 a.s.l, .int .i64 a.s.r] 34)) g c) := hc.alloc _
  have HD0 : Hid (RkAt (w.alloc (.cells #[.int .u8 a.k, .int .i64 a.n, .int .i64 a.s.p, .int .i64 a.s.l, .int .i64 a.s.r] 34)) gd c) := hd.alloc _
  have HA0 : Hid (AcAt (w.alloc (.cells #[.int .u8 a.k, .int .i64 a.n, .int .i64 a.s.p, .int .i64 a.s.l, .int .i64 a.s.r] 34)) w.heap.size a) := AcAt.new w a rfl
  have HT0 : Hid (Two w (w.alloc (.cells #[.int .u8 a.k, .int .i64 a.n, .int .i64 a.s.p, .int .i64 a.s.l, .int .i64 a.s.r] 34)) g gd) := (Two.refl w g gd).alloc _
  have hg0 : g < w.heap.size := hc.lt
  have hgd0 : gd < w.heap.size := hd.lt
  have HP : Hid (∀ w, CkAt w g c → _) := fun w hc => floor_any g c a.n w hc
  have HQ : Hid (∀ w, RkAt w gd c → _) := fun w hc => rfloor_any gd c a.n w hc
  generalize HlcMath.floor c a.n = c' at *
  clear hc hd ho
  unfold acV PlayR
  go_enter Try.func11, Try.ntmps11
  go_upto_region 1 with (fail)
  generalize w.alloc (.cells #[.int .u8 a.k, .int .i64 a.n, .int .i64 a.s.p, .int .i64 a.s.l, .int .i64 a.s.r] 34) = w0 at *
  generalize hga : w.heap.size = ga at HA0 hg0 hgd0 ⊢
  obtain ⟨A_0, A_1, A_2, A_3, A_4⟩ := HA0.out.cells
  go_wp2_with fail
  refine Calls.mono (HP.out _ HC0.out) ?_
  rintro e w1 ⟨rfl, hc1, hg1⟩
  have HC2 : Hid (CkAt w1 g c') := hc1
  have HD3 : Hid (RkAt w1 gd c) := HD0.out.grown hg1 (by omega)
  have HA4 : Hid (AcAt w1 ga a) := HA0.out.grown hg1 (by omega)
  have HB5 : Hid (Two w w1 g gd) := HT0.out.left hg1
  clear HC0 HD0 HA0 HT0 hc1 hg1
  clear A_0 A_1 A_2 A_3 A_4
  obtain ⟨A_0, A_1, A_2, A_3, A_4⟩ := HA4.out.cells
  go_wp2_with fail
  refine Calls.mono (HQ.out _ HD3.out) ?_
  rintro e w6 ⟨rfl, hc6, hg6⟩
  have HC7 : Hid (CkAt w6 g c') := HC2.out.grown hg6 (by omega)
  have HD8 : Hid (RkAt w6 gd c') := hc6
  have HA9 : Hid (AcAt w6 ga a) := HA4.out.grown hg6 (by omega)
  have HB10 : Hid (Two w w6 g gd) := HB5.out.right hg6
  clear HC2 HD3 HA4 HB5 hc6 hg6
  clear A_0 A_1 A_2 A_3 A_4
  go_upto_region 21 with (fail)
  have HL9 : Hid (∀ m : Grown1 w6, _) := fun m => last_any g c' m.w (HC7.out.later m.below HC7.out.lt)
  unfold stV at HL9
  have hne : Nonempty (Grown1 w6) := ⟨⟨w6, Below.refl _ _⟩⟩
  obtain ⟨D_0, D_1, D_2, D_3, D_4⟩ := HD8.out.cells
  have D_0' := fun m : Grown1 w6 => grown1_cell D_0 m
  have D_1' := fun m : Grown1 w6 => grown1_cell D_1 m
  have D_2' := fun m : Grown1 w6 => grown1_cell D_2 m
  have D_3' := fun m : Grown1 w6 => grown1_cell D_3 m
  have D_4' := fun m : Grown1 w6 => grown1_cell D_4 m
  clear D_0 D_1 D_2 D_3 D_4
  (try dsimp only at HL9 D_0' D_1' D_2' D_3' D_4')
  (try simp only [Act.put])
  refine wp_region_grow (by kernel_rfl) (by kernel_rfl) ?_
  repeat (go_big_quiet_step (first | with_reducible exact grown1_call _ (HL9.out _) | fail))
  refine wpQuiet_nil ?_
  intro _ hw'
  obtain ⟨n1, hw''⟩ := hw'
  subst hw''
  have HC11 : Hid (CkAt n1.w g c') := HC7.out.later n1.below HC7.out.lt
  have HD12 : Hid (RkAt n1.w gd c') := HD8.out.later n1.below HD8.out.lt
  have HA13 : Hid (AcAt n1.w ga a) := HA9.out.later n1.below HA9.out.lt
  have HB14 : Hid (Two w n1.w g gd) := HB10.out.below n1.below
  clear HC7 HD8 HA9 HB10 D_0' D_1' D_2' D_3' D_4' HL9
  generalize n1.w = w15 at *
  clear hne n1
  go_wp2
  go_ret
  exact ⟨rfl, HC11.out, HD12.out, HB14.out⟩

theorem play_any (g gd : Nat) (c : Ck) (a : Ac) (w : World) (hne0 : g ≠ gd) (hc : CkAt w g c) (hd : RkAt w gd c) (ho : HlcMath.Ok c) (hk0 : 0 ≤ a.k) (hk1 : a.k ≤ 255) :
    Calls Try.prog 11 #[.pointer (some ⟨g, 0, none⟩), .pointer (some ⟨gd, 0, none⟩), acV a] w fun e w' => PlayR w g gd (stepA c a) e w' := by
  rcases act_cases c a with ⟨h | h, H⟩ | ⟨h, H⟩ | ⟨h, H⟩ | ⟨h, H⟩ | ⟨h, H⟩
  all_goals rw [H.out]
  · exact play0 g gd c a w hne0 hc hd ho hk0 hk1 h
  · exact play1 g gd c a w hne0 hc hd ho hk0 hk1 h
  · exact play2 g gd c a w hne0 hc hd ho hk0 hk1 h
  · exact play3 g gd c a w hne0 hc hd ho hk0 hk1 h
  · exact play4 g gd c a w hne0 hc hd ho hk0 hk1 h
  · exact play5 g gd c a w hne0 hc hd ho hk0 hk1 h
end Go.Proofs.Ytecijlgkadlmnaa
