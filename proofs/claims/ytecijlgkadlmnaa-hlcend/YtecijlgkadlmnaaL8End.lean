/-
  The walk of HlcEnd.
-/
import Derived.Test.YtecijlgkadlmnaaL8Known
import Derived.Test.YtecijlgkadlmnaaEndMath
import Derived.Deep.Cut
namespace Go.Proofs.Ytecijlgkadlmnaa
open Go.RowKit NumMath
open StMath (St)
open HlcMath (Ck endC)
set_option maxRecDepth 100000
set_option linter.unusedVariables false
set_option linter.unusedSimpArgs false

set_option maxRecDepth 100000 in
set_option maxHeartbeats 16000000 in
theorem hlcEnd_walk (q k n : Int) (W : World) (wq : (Lit.int .u16 q).wf = true) (wk : (Lit.int .u8 k).wf = true) (wn : (Lit.int .u8 n).wf = true) :
    Calls Try.prog 6 #[.int .u16 q, .int .u8 k, .int .u8 n] W fun e w' => e = .returned (.bool true) ∧ Below W.heap.size W w' := by
  have hqb := bounds_u16 wq
  have hkb := bounds_u8 wk
  have hnb := bounds_u8 wn
  obtain ⟨r, hr⟩ : ∃ r, k % 64 = r := ⟨_, rfl⟩
  obtain ⟨m, hm⟩ : ∃ m, q % 4 = m := ⟨_, rfl⟩
  obtain ⟨t, ht⟩ : ∃ t, n % 3 = t := ⟨_, rfl⟩
  have r0 : 0 ≤ r := by omega
  have r1 : r < 64 := by omega
  have m0 : 0 ≤ m := by omega
  have m1 : m ≤ 3 := by omega
  have t0 : 0 ≤ t := by omega
  have t1 : t ≤ 2 := by omega
  have HTb := HlcMath.steps_bd m0 m1 t0 t1
  obtain ⟨T, hT⟩ : ∃ T, t * (m + 1) = T := ⟨_, rfl⟩
  have HFl : Hid (HlcMath.floor ⟨⟨0, 0, r⟩, m, 281474976710655⟩ (281474976710655 - t) = endC r m t 0) := HlcMath.end_floor m0 m1 t0 t1
  have HEnd : Hid ((endC r m t T).s = ⟨281474976710655, m, r⟩) := by rw [← hT]; exact HlcMath.end_end m0 m1 t0 t1
  have HOk : Hid (∀ x, 0 ≤ x → x ≤ T → HlcMath.Ok (endC r m t x)) := fun x h0 h1 => HlcMath.endC_ok r0 r1 m0 m1 t0 t1 h0 (by omega)
  have HNx : Hid (∀ x, 0 ≤ x → x < T → _) := fun x h0 h1 => HlcMath.end_next (r := r) (n := n) m0 m1 t0 t1 h0 (by omega : x < t * (m + 1)) hnb.1 hnb.2
  have HLs : Hid (_) := HlcMath.end_last (r := r) (n := n) (x := T) m0 m1 t0 t1 (by omega) hT.symm hnb.1 hnb.2
  rw [hT] at HTb
  have e1 : IntKind.i64.wrap (m + 1) = m + 1 := wrap_small (by omega) (by omega)
  have e2 : IntKind.i64.wrap T = T := wrap_small (by omega) (by omega)
  have e3 : IntKind.i64.wrap (281474976710655 - t) = 281474976710655 - t := wrap_small (by omega) (by omega)
  have HK : Hid _ := known8_any W
  clear wq wk wn
  go_enter Try.func6, Try.ntmps6
  go_wp2_with fail
  refine Calls.mono HK.out ?_
  rintro e w1 ⟨rfl, hb1⟩
  have HB1 : Hid _ := hb1
  clear hb1 HK
  go_wp2_with fail
  refine Calls.mono (new_any r m 281474976710655 _) ?_
  rintro e w2 ⟨hb2, ⟨hk, _⟩ | ⟨hok, g, hg, rfl, hc2⟩⟩
  · exact absurd (newOk_iff.2 ⟨r0, r1, m0, by omega, by decide, by decide⟩ : newOk r m 281474976710655 = true) (by rw [hk]; decide)
  have HB2 : Hid (Below W.heap.size W w2) := HB1.out.trans (hb2.mono HB1.out.size)
  have HC2 : Hid (CkAt w2 g ⟨⟨0, 0, r⟩, m, 281474976710655⟩) := hc2
  have hgW : W.heap.size ≤ g := Nat.le_trans HB1.out.size hg
  have HLA : Hid (∀ c w, CkAt w g c → _) := fun c w hc => last_any g c w hc
  have HN : Hid (∀ c w, CkAt w g c → HlcMath.Ok c → _) := fun c w hc ho => next_any g c n w hc ho
  unfold stV at HLA HN
  clear hb2 hc2 hg HB1 hok
  go_wp2_with fail
  refine Calls.mono (floor_any g _ (281474976710655 - t) w2 HC2.out) ?_
  rintro e w3 ⟨rfl, hc3, hg3⟩
  have HC3 : Hid (CkAt w3 g (endC r m t 0)) := by rw [← HFl.out]; exact hc3
  have HB3 : Hid (Below W.heap.size W w3) := below_gr HB2.out hg3 HB2.out.size (by omega)
  clear hc3 hg3 HC2 HB2 HFl
  go_wp2
  go_loopw [9] (fun i wr => ∃ (j : Nat) (x : Int), j ≤ 12 ∧ i = .int .i64 j ∧ 0 ≤ x ∧ x ≤ T ∧ ((j : Int) ≤ T → x = j) ∧ (T ≤ j → x = T) ∧ CkAt wr g (endC r m t x) ∧ Below W.heap.size W wr) (fun i _ => 12 - (intOf i).toNat)
  case atStart => exact ⟨0, 0, by omega, rfl, by omega, by omega, fun _ => rfl, fun _ => by omega, HC3.out, HB3.out⟩
  case round =>
    obtain ⟨j, x, hj, rfl, hx0, hx1, hx2, hx3, hC, hB⟩ := hrel
    have HC : Hid (CkAt wr g (endC r m t x)) := hC
    have HB : Hid (Below W.heap.size W wr) := hB
    have HO : Hid (HlcMath.Ok (endC r m t x)) := HOk.out x hx0 hx1
    clear hC hB HC3 HB3
    by_cases hjn : j < 12
    · have e4 : IntKind.i64.wrap (T - (j : Int)) = T - (j : Int) := wrap_mid (by omega) (by omega)
      have hj12 : (j : Int) < 12 := by omega
      have HX2 : Hid _ := hx2
      have HX3 : Hid _ := hx3
      clear hx2 hx3
      by_cases hjT : (j : Int) < T
      · have hxj : Hid (x = j) := HX2.out (by omega)
        have HN1 : Hid _ := HNx.out x hx0 (by have := hxj.out; omega)
        have HLc : Hid (∀ w, CkAt w g (endC r m t x) → _) := fun w hc => HLA.out (endC r m t x) w hc
        have HNc : Hid (∀ w, CkAt w g (endC r m t x) → _) := fun w hc => HN.out (endC r m t x) w hc HO.out
        have HLe : Hid (∀ w, _) := fun w => refLess_any (endC r m t x).s (endC r m t (x + 1)).s w
        rw [HN1.out.1, HN1.out.2.1] at HNc
        rw [HN1.out.2.2] at HLe
        unfold stV at HLe
        dsimp only at HNc
        clear HN1
        have h9 : decide (0 < T - (j : Int)) = true := by simp; omega
        have h10 : decide (T - (j : Int) ≤ 0) = false := by simp; omega
        generalize endC r m t x = c at *
        generalize hc' : endC r m t (x + 1) = c' at *
        have HC' : Hid _ := hc'
        clear hc' HO
        go_wp2_with fail
        refine Calls.mono (HLc.out _ HC.out) ?_
        rintro e w1 ⟨rfl, hb1⟩
        have HC2 : Hid (CkAt w1 g c) := HC.out.later hb1 HC.out.lt
        have HB3 : Hid (Below W.heap.size W w1) := HB.out.trans (hb1.mono HB.out.size)
        clear HC HB hb1
        have HX4 : Hid (StAt (w1.alloc (.cells #[.int .i64 0, .int .i64 0, .int .i64 0] 32)) w1.heap.size StMath.zero) := StAt.new w1 StMath.zero rfl
        have hlt_gx_C : g < w1.heap.size := HC2.out.lt
        have hle_gx : W.heap.size ≤ w1.heap.size := HB3.out.size
        have HC5 : Hid (CkAt ((w1.alloc (.cells #[.int .i64 0, .int .i64 0, .int .i64 0] 32)).setRow w1.heap.size (stL c.s).toArray) g c) := CkAt.row_other (HC2.out.alloc _) _ (by omega)
        have HB6 : Hid (Below W.heap.size W ((w1.alloc (.cells #[.int .i64 0, .int .i64 0, .int .i64 0] 32)).setRow w1.heap.size (stL c.s).toArray)) := below_setRow (HB3.out.alloc HB3.out.size _) (by omega) _
        have HX7 : Hid (StAt ((w1.alloc (.cells #[.int .i64 0, .int .i64 0, .int .i64 0] 32)).setRow w1.heap.size (stL c.s).toArray) w1.heap.size c.s) := StAt.row HX4.out
        go_upto_region 11 with (first
          | refine wpList_store_st rfl (.tmp 10) (.tmp 43) rfl w1.heap.size StMath.zero c.s rfl rfl HX4.out ?_)
        clear HC2 HB3 HX4
        generalize (w1.alloc (.cells #[.int .i64 0, .int .i64 0, .int .i64 0] 32)).setRow w1.heap.size (stL c.s).toArray = w8 at *
        generalize w1.heap.size = gx at *
        go_wp2_with fail
        refine Calls.mono (HNc.out _ HC5.out) ?_
        rintro e w9 ⟨rfl, hc9, hg9⟩
        have HC10 : Hid (CkAt w9 g c') := hc9
        have HX11 : Hid (StAt w9 gx c.s) := HX7.out.grown hg9 (by omega)
        have HB12 : Hid (Below W.heap.size W w9) := below_gr HB6.out hg9 HB6.out.size (by omega)
        clear HC5 HX7 HB6 hc9 hg9
        have HX13 : Hid (StAt (w9.alloc (.cells #[.int .i64 0, .int .i64 0, .int .i64 0] 32)) w9.heap.size StMath.zero) := StAt.new w9 StMath.zero rfl
        have hlt_gy_C : g < w9.heap.size := HC10.out.lt
        have hlt_gy_X : gx < w9.heap.size := HX11.out.lt
        have hle_gy : W.heap.size ≤ w9.heap.size := HB12.out.size
        have HC14 : Hid (CkAt ((w9.alloc (.cells #[.int .i64 0, .int .i64 0, .int .i64 0] 32)).setRow w9.heap.size (stL c'.s).toArray) g c') := CkAt.row_other (HC10.out.alloc _) _ (by omega)
        have HX15 : Hid (StAt ((w9.alloc (.cells #[.int .i64 0, .int .i64 0, .int .i64 0] 32)).setRow w9.heap.size (stL c'.s).toArray) gx c.s) := StAt.row_other (HX11.out.alloc _) _ (by omega)
        have HB16 : Hid (Below W.heap.size W ((w9.alloc (.cells #[.int .i64 0, .int .i64 0, .int .i64 0] 32)).setRow w9.heap.size (stL c'.s).toArray)) := below_setRow (HB12.out.alloc HB12.out.size _) (by omega) _
        have HY17 : Hid (StAt ((w9.alloc (.cells #[.int .i64 0, .int .i64 0, .int .i64 0] 32)).setRow w9.heap.size (stL c'.s).toArray) w9.heap.size c'.s) := StAt.row HX13.out
        go_upto_region 12 with (first
          | refine wpList_store_st rfl (.tmp 11) (.tmp 49) rfl w9.heap.size StMath.zero c'.s rfl rfl HX13.out ?_)
        clear HC10 HX11 HB12 HX13
        generalize (w9.alloc (.cells #[.int .i64 0, .int .i64 0, .int .i64 0] 32)).setRow w9.heap.size (stL c'.s).toArray = w18 at *
        generalize w9.heap.size = gy at *
        obtain ⟨X_0, X_1, X_2⟩ := HX15.out.cells
        obtain ⟨Y_0, Y_1, Y_2⟩ := HY17.out.cells
        go_wp2_with fail
        refine Calls.mono (HLe.out _) ?_
        rintro e w19 ⟨rfl, hb19⟩
        have HC20 : Hid (CkAt w19 g c') := HC14.out.later hb19 HC14.out.lt
        have HX21 : Hid (StAt w19 gx c.s) := HX15.out.later hb19 HX15.out.lt
        have HY22 : Hid (StAt w19 gy c'.s) := HY17.out.later hb19 HY17.out.lt
        have HB23 : Hid (Below W.heap.size W w19) := HB16.out.trans (hb19.mono HB16.out.size)
        clear HC14 HX15 HY17 HB16 hb19
        clear X_0 X_1 X_2 Y_0 Y_1 Y_2
        go_wp2_with fail
        have hne : Nonempty (Grown1 w19) := ⟨⟨w19, Below.refl _ _⟩⟩
        (try simp only [Act.put])
        refine wp_region_grow (by kernel_rfl) (by kernel_rfl) ?_
        repeat (go_big_quiet_step (first | fail))
        refine wpQuiet_nil ?_
        intro _ hw'
        obtain ⟨n1, hw''⟩ := hw'
        subst hw''
        have HC24 : Hid (CkAt n1.w g c') := HC20.out.later n1.below HC20.out.lt
        have HX25 : Hid (StAt n1.w gx c.s) := HX21.out.later n1.below HX21.out.lt
        have HY26 : Hid (StAt n1.w gy c'.s) := HY22.out.later n1.below HY22.out.lt
        have HB27 : Hid (Below W.heap.size W n1.w) := HB23.out.trans (n1.below.mono HB23.out.size)
        clear HC20 HX21 HY22 HB23
        generalize n1.w = w28 at *
        clear hne n1
        go_wp2
        go_roundw
        case rel => exact ⟨j + 1, x + 1, by omega, by go_num, by omega, by have := hxj.out; omega, fun h => by have := hxj.out; omega, fun h => by have := hxj.out; omega, by rw [HC'.out]; exact HC24.out, HB27.out⟩
        case measure => simp [intOf]; omega
      · have hxj : Hid (x = T) := HX3.out (by omega)
        have HLc : Hid (∀ w, CkAt w g (endC r m t x) → _) := fun w hc => HLA.out (endC r m t x) w hc
        have HNc : Hid (∀ w, CkAt w g (endC r m t x) → _) := fun w hc => HN.out (endC r m t x) w hc HO.out
        rw [hxj.out, HLs.out.1, HLs.out.2] at HNc
        unfold StMath.zero at HNc
        dsimp only at HNc
        rw [hxj.out] at HLc HC
        have h9 : decide (0 < T - (j : Int)) = false := by simp; omega
        have h10 : decide (T - (j : Int) ≤ 0) = true := by simp; omega
        have HC' : Hid (endC r m t x = endC r m t T) := by rw [hxj.out]; rfl
        clear HO
        generalize endC r m t T = c at *
        go_wp2_with fail
        refine Calls.mono (HLc.out _ HC.out) ?_
        rintro e w1 ⟨rfl, hb1⟩
        have HC2 : Hid (CkAt w1 g c) := HC.out.later hb1 HC.out.lt
        have HB3 : Hid (Below W.heap.size W w1) := HB.out.trans (hb1.mono HB.out.size)
        clear HC HB hb1
        have HX4 : Hid (StAt (w1.alloc (.cells #[.int .i64 0, .int .i64 0, .int .i64 0] 32)) w1.heap.size StMath.zero) := StAt.new w1 StMath.zero rfl
        have hlt_gx_C : g < w1.heap.size := HC2.out.lt
        have hle_gx : W.heap.size ≤ w1.heap.size := HB3.out.size
        have HC5 : Hid (CkAt ((w1.alloc (.cells #[.int .i64 0, .int .i64 0, .int .i64 0] 32)).setRow w1.heap.size (stL c.s).toArray) g c) := CkAt.row_other (HC2.out.alloc _) _ (by omega)
        have HB6 : Hid (Below W.heap.size W ((w1.alloc (.cells #[.int .i64 0, .int .i64 0, .int .i64 0] 32)).setRow w1.heap.size (stL c.s).toArray)) := below_setRow (HB3.out.alloc HB3.out.size _) (by omega) _
        have HX7 : Hid (StAt ((w1.alloc (.cells #[.int .i64 0, .int .i64 0, .int .i64 0] 32)).setRow w1.heap.size (stL c.s).toArray) w1.heap.size c.s) := StAt.row HX4.out
        go_upto_region 11 with (first
          | refine wpList_store_st rfl (.tmp 10) (.tmp 43) rfl w1.heap.size StMath.zero c.s rfl rfl HX4.out ?_)
        clear HC2 HB3 HX4
        generalize (w1.alloc (.cells #[.int .i64 0, .int .i64 0, .int .i64 0] 32)).setRow w1.heap.size (stL c.s).toArray = w8 at *
        generalize w1.heap.size = gx at *
        go_wp2_with fail
        refine Calls.mono (HNc.out _ HC5.out) ?_
        rintro e w9 ⟨rfl, hc9, hg9⟩
        have HC10 : Hid (CkAt w9 g c) := hc9
        have HX11 : Hid (StAt w9 gx c.s) := HX7.out.grown hg9 (by omega)
        have HB12 : Hid (Below W.heap.size W w9) := below_gr HB6.out hg9 HB6.out.size (by omega)
        clear HC5 HX7 HB6 hc9 hg9
        have HX13 : Hid (StAt (w9.alloc (.cells #[.int .i64 0, .int .i64 0, .int .i64 0] 32)) w9.heap.size StMath.zero) := StAt.new w9 StMath.zero rfl
        have hlt_gy_C : g < w9.heap.size := HC10.out.lt
        have hlt_gy_X : gx < w9.heap.size := HX11.out.lt
        have hle_gy : W.heap.size ≤ w9.heap.size := HB12.out.size
        have HC14 : Hid (CkAt ((w9.alloc (.cells #[.int .i64 0, .int .i64 0, .int .i64 0] 32)).setRow w9.heap.size (stL StMath.zero).toArray) g c) := CkAt.row_other (HC10.out.alloc _) _ (by omega)
        have HX15 : Hid (StAt ((w9.alloc (.cells #[.int .i64 0, .int .i64 0, .int .i64 0] 32)).setRow w9.heap.size (stL StMath.zero).toArray) gx c.s) := StAt.row_other (HX11.out.alloc _) _ (by omega)
        have HB16 : Hid (Below W.heap.size W ((w9.alloc (.cells #[.int .i64 0, .int .i64 0, .int .i64 0] 32)).setRow w9.heap.size (stL StMath.zero).toArray)) := below_setRow (HB12.out.alloc HB12.out.size _) (by omega) _
        have HY17 : Hid (StAt ((w9.alloc (.cells #[.int .i64 0, .int .i64 0, .int .i64 0] 32)).setRow w9.heap.size (stL StMath.zero).toArray) w9.heap.size StMath.zero) := StAt.row HX13.out
        go_upto_region 12 with (first
          | refine wpList_store_st rfl (.tmp 11) (.tmp 49) rfl w9.heap.size StMath.zero StMath.zero rfl rfl HX13.out ?_)
        clear HC10 HX11 HB12 HX13
        generalize (w9.alloc (.cells #[.int .i64 0, .int .i64 0, .int .i64 0] 32)).setRow w9.heap.size (stL StMath.zero).toArray = w18 at *
        generalize w9.heap.size = gy at *
        go_wp2_with fail
        have HL2 : Hid (∀ m : Grown1 w18, _) := fun m => HLc.out m.w (HC14.out.later m.below HC14.out.lt)
        have hne : Nonempty (Grown1 w18) := ⟨⟨w18, Below.refl _ _⟩⟩
        obtain ⟨X_0, X_1, X_2⟩ := HX15.out.cells
        have X_0' := fun m : Grown1 w18 => grown1_cell X_0 m
        have X_1' := fun m : Grown1 w18 => grown1_cell X_1 m
        have X_2' := fun m : Grown1 w18 => grown1_cell X_2 m
        clear X_0 X_1 X_2
        obtain ⟨Y_0, Y_1, Y_2⟩ := HY17.out.cells
        have Y_0' := fun m : Grown1 w18 => grown1_cell Y_0 m
        have Y_1' := fun m : Grown1 w18 => grown1_cell Y_1 m
        have Y_2' := fun m : Grown1 w18 => grown1_cell Y_2 m
        clear Y_0 Y_1 Y_2
        unfold StMath.zero at *
        dsimp only at Y_0' Y_1' Y_2'
        (try simp only [Act.put])
        refine wp_region_grow (by kernel_rfl) (by kernel_rfl) ?_
        repeat (go_big_quiet_step (first | with_reducible exact grown1_call _ (HL2.out _) | fail))
        refine wpQuiet_nil ?_
        intro _ hw'
        obtain ⟨n1, hw''⟩ := hw'
        subst hw''
        have HC19 : Hid (CkAt n1.w g c) := HC14.out.later n1.below HC14.out.lt
        have HX20 : Hid (StAt n1.w gx c.s) := HX15.out.later n1.below HX15.out.lt
        have HY21 : Hid (StAt n1.w gy StMath.zero) := HY17.out.later n1.below HY17.out.lt
        have HB22 : Hid (Below W.heap.size W n1.w) := HB16.out.trans (n1.below.mono HB16.out.size)
        clear HC14 HX15 HY17 HB16 X_0' X_1' X_2' Y_0' Y_1' Y_2' HL2
        generalize n1.w = w23 at *
        clear hne n1
        go_wp2
        go_roundw
        case rel => exact ⟨j + 1, x, by omega, by go_num, hx0, hx1, fun h => by omega, fun h => hxj.out, by rw [HC'.out]; exact HC19.out, HB22.out⟩
        case measure => simp [intOf]; omega
    · have hjk : j = 12 := by omega
      have hxT : Hid (x = T) := hx3 (by omega)
      have hdk : decide ((j : Int) < 12) = false := by simp; omega
      have HLc : Hid (∀ w, CkAt w g (endC r m t x) → _) := fun w hc => HLA.out (endC r m t x) w hc
      rw [hxT.out, HEnd.out] at HLc
      rw [hxT.out] at HC
      dsimp only at HLc
      clear hx2 hx3 hjk
      go_wp2_with fail
      refine Calls.mono (HLc.out _ HC.out) ?_
      rintro e w5 ⟨rfl, hb5⟩
      have HB5 : Hid (Below W.heap.size W w5) := HB.out.trans (hb5.mono HB.out.size)
      clear hb5
      go_wp2
      go_ret
      exact ⟨rfl, HB5.out⟩
end Go.Proofs.Ytecijlgkadlmnaa
