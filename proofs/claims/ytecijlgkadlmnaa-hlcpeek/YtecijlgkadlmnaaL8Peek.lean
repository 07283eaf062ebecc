/-
  The walk of HlcPeek.
-/
import Derived.Test.YtecijlgkadlmnaaL8Known
import Derived.Test.YtecijlgkadlmnaaHlcLaws
import Derived.Deep.Cut
namespace Go.Proofs.Ytecijlgkadlmnaa
open Go.RowKit NumMath
open StMath (St)
open HlcMath (Ck)
set_option maxRecDepth 100000
set_option linter.unusedVariables false
set_option linter.unusedSimpArgs false

set_option maxRecDepth 100000 in
set_option maxHeartbeats 16000000 in
theorem hlcPeek_walk (k : Int) (a : Option Addr) (zs : List Int) (cap : Nat) (W : World) (wk : (Lit.int .u8 k).wf = true) (hr : Row .u16 W a zs) (hc : zs.length ≤ cap) (hm : cap ≤ maxLen) (hn0 : a = none → cap = 0)
    (hw : ∀ n ∈ zs, (Lit.int .u16 n).wf = true) (hs : cap * 2 ≤ 140737488351232) :
    Calls Try.prog 7 #[.int .u8 k, .slice a zs.length cap] W fun e w' => e = .returned (.bool true) ∧ Below W.heap.size W w' := by
  have hkb := bounds_u8 wk
  have hzb := u16s hw
  have hcm : cap ≤ 140737488351232 := by omega
  obtain ⟨n, hnn⟩ : ∃ n, n = zs.length := ⟨_, rfl⟩
  have HN : Hid (n = zs.length) := hnn
  rw [← hnn] at hc ⊢
  have HAT : Hid (∀ j, j < n → ∃ b off x, a = some ⟨b, off, none⟩ ∧ W.cell? ⟨b, off + j, none⟩ = some (.int .u16 x) ∧ 0 ≤ x ∧ x ≤ 65535) := fun j hj => by
    rcases hr with h | ⟨b, off, ha, hcell⟩
    · rw [h] at hnn; simp at hnn; omega
    · have hb := hzb (zs[j]?.getD 0) (mem_getD zs j (by omega))
      exact ⟨b, off, zs[j]?.getD 0, ha, by simpa using hcell j (by omega), hb.1, hb.2⟩
  clear hnn hw hr hzb hs hn0 wk
  have HK : Hid _ := known8_any W
  have e1 : IntKind.i64.wrap (k % 64) = k % 64 := wrap_small (by omega) (by omega)
  have hr0 : 0 ≤ k % 64 ∧ k % 64 < 64 := by omega
  have hm0 : 0 ≤ k % 3 ∧ k % 3 < 3 := by omega
  have hd0 : 0 ≤ k % 5 ∧ k % 5 < 5 := by omega
  go_enter Try.func7, Try.ntmps7
  go_wp2_with fail
  refine Calls.mono HK.out ?_
  rintro e w1 ⟨rfl, hb1⟩
  have HB1 : Hid _ := hb1
  clear hb1 HK
  by_cases hbig : 300 < n
  · go_wp2
    go_ret
    exact ⟨rfl, HB1.out⟩
  go_wp2_with fail
  refine Calls.mono (new_any (k % 64) (k % 3) (k % 5) _) ?_
  rintro e w2 ⟨hb2, ⟨hk, _⟩ | ⟨hok, g, hg, rfl, hc2⟩⟩
  · exact absurd (newOk_iff.2 ⟨hr0.1, hr0.2, hm0.1, by omega, hd0.1, by omega⟩ : newOk (k % 64) (k % 3) (k % 5) = true) (by rw [hk]; decide)
  have HB2 : Hid (Below W.heap.size W w2) := HB1.out.trans (hb2.mono HB1.out.size)
  have HC2 : Hid (CkAt w2 g ⟨⟨0, 0, k % 64⟩, k % 3, k % 5⟩) := hc2
  have HO2 : Hid (HlcMath.Ok ⟨⟨0, 0, k % 64⟩, k % 3, k % 5⟩) := newOk_ok hok
  have hgW : W.heap.size ≤ g := Nat.le_trans HB1.out.size hg
  have HLA : Hid (∀ c w, CkAt w g c → _) := fun c w hc => last_any g c w hc
  have HPK : Hid (∀ c now w, CkAt w g c → HlcMath.Ok c → _) := fun c now w hc ho => peek_any g c now w hc ho
  have HNX : Hid (∀ c now w, CkAt w g c → HlcMath.Ok c → _) := fun c now w hc ho => next_any g c now w hc ho
  unfold stV at HLA HPK HNX
  clear hb2 hc2 hg HB1 hok
  go_wp2
  go_loopw [7] (fun i wr => ∃ (j : Nat) (c : Ck), j ≤ n ∧ i = .int .i64 j ∧ CkAt wr g c ∧ HlcMath.Ok c ∧ Below W.heap.size W wr) (fun i _ => n - (intOf i).toNat)
  case atStart => exact ⟨0, _, by omega, rfl, HC2.out, HO2.out, HB2.out⟩
  case round =>
    obtain ⟨j, c, hj, rfl, hC, hO, hB⟩ := hrel
    have HC : Hid (CkAt wr g c) := hC
    have HO : Hid (HlcMath.Ok c) := hO
    have HB : Hid (Below W.heap.size W wr) := hB
    clear hC hO hB HC2 HO2 HB2
    by_cases hjn : j < n
    · obtain ⟨b, off, x, rfl, hx, hx0, hx1⟩ := HAT.out j hjn
      have hcx := cell_later hx HB.out
      have hw1 : IntKind.i64.wrap (x % 40 - 1) = x % 40 - 1 := wrap_mid (by omega) (by omega)
      obtain ⟨s, e, hpk⟩ : ∃ s e, HlcMath.peek c (x % 40 - 1) = (s, e) := ⟨_, _, rfl⟩
      obtain ⟨c', hc'⟩ : ∃ c', HlcMath.next c (x % 40 - 1) = c' := ⟨_, rfl⟩
      have hcs := next_cases c (x % 40 - 1) s e hpk
      have HP : Hid (∀ w, CkAt w g c → _) := fun w hc => HPK.out c (x % 40 - 1) w hc HO.out
      have HN2 : Hid (∀ w, CkAt w g c → _) := fun w hc => HNX.out c (x % 40 - 1) w hc HO.out
      have HO' : Hid (HlcMath.Ok c') := by rw [← hc']; exact next_ok HO.out _
      have HLc : Hid (∀ w, CkAt w g c → _) := fun w hc => HLA.out c w hc
      have HLd : Hid (∀ w, CkAt w g c' → _) := fun w hc => HLA.out c' w hc
      rw [hpk] at HP HN2
      rw [hc'] at HN2 hcs
      dsimp only at HP HN2
      clear hpk hc' hx HO
      go_wp2_with fail
      refine Calls.mono (HLc.out _ HC.out) ?_
      rintro e w1 ⟨rfl, hb1⟩
      have HC2 : Hid (CkAt w1 g c) := HC.out.later hb1 HC.out.lt
      have HB3 : Hid (Below W.heap.size W w1) := HB.out.trans (hb1.mono HB.out.size)
      clear HC HB hb1
      have HX4 : Hid (StAt (w1.alloc (.cells #[.int .i64 0, .int .i64 0, .int .i64 0] 32)) w1.heap.size StMath.zero) := StAt.new w1 StMath.zero rfl
      have hlt_ga_C : g < w1.heap.size := HC2.out.lt
      have hle_ga : W.heap.size ≤ w1.heap.size := HB3.out.size
      have HC5 : Hid (CkAt ((w1.alloc (.cells #[.int .i64 0, .int .i64 0, .int .i64 0] 32)).setRow w1.heap.size (stL c.s).toArray) g c) := CkAt.row_other (HC2.out.alloc _) _ (by omega)
      have HB6 : Hid (Below W.heap.size W ((w1.alloc (.cells #[.int .i64 0, .int .i64 0, .int .i64 0] 32)).setRow w1.heap.size (stL c.s).toArray)) := below_setRow (HB3.out.alloc HB3.out.size _) (by omega) _
      have HXa7 : Hid (StAt ((w1.alloc (.cells #[.int .i64 0, .int .i64 0, .int .i64 0] 32)).setRow w1.heap.size (stL c.s).toArray) w1.heap.size c.s) := StAt.row HX4.out
      go_upto_region 13 with (first
        | refine wpList_store_st rfl (.tmp 9) (.tmp 52) rfl w1.heap.size StMath.zero c.s rfl rfl HX4.out ?_)
      clear HC2 HB3 HX4
      generalize (w1.alloc (.cells #[.int .i64 0, .int .i64 0, .int .i64 0] 32)).setRow w1.heap.size (stL c.s).toArray = w8 at *
      generalize w1.heap.size = ga at *
      go_wp2_with fail
      refine Calls.mono (HP.out _ HC5.out) ?_
      rintro e w9 ⟨rfl, hb9⟩
      have HC10 : Hid (CkAt w9 g c) := HC5.out.later hb9 HC5.out.lt
      have HXa11 : Hid (StAt w9 ga c.s) := HXa7.out.later hb9 HXa7.out.lt
      have HB12 : Hid (Below W.heap.size W w9) := HB6.out.trans (hb9.mono HB6.out.size)
      clear HC5 HXa7 HB6 hb9
      have HX13 : Hid (StAt (w9.alloc (.cells #[.int .i64 0, .int .i64 0, .int .i64 0] 32)) w9.heap.size StMath.zero) := StAt.new w9 StMath.zero rfl
      have hlt_gb_C : g < w9.heap.size := HC10.out.lt
      have hlt_gb_Xa : ga < w9.heap.size := HXa11.out.lt
      have hle_gb : W.heap.size ≤ w9.heap.size := HB12.out.size
      have HC14 : Hid (CkAt ((w9.alloc (.cells #[.int .i64 0, .int .i64 0, .int .i64 0] 32)).setRow w9.heap.size (stL s).toArray) g c) := CkAt.row_other (HC10.out.alloc _) _ (by omega)
      have HXa15 : Hid (StAt ((w9.alloc (.cells #[.int .i64 0, .int .i64 0, .int .i64 0] 32)).setRow w9.heap.size (stL s).toArray) ga c.s) := StAt.row_other (HXa11.out.alloc _) _ (by omega)
      have HB16 : Hid (Below W.heap.size W ((w9.alloc (.cells #[.int .i64 0, .int .i64 0, .int .i64 0] 32)).setRow w9.heap.size (stL s).toArray)) := below_setRow (HB12.out.alloc HB12.out.size _) (by omega) _
      have HXb17 : Hid (StAt ((w9.alloc (.cells #[.int .i64 0, .int .i64 0, .int .i64 0] 32)).setRow w9.heap.size (stL s).toArray) w9.heap.size s) := StAt.row HX13.out
      go_upto_region 14 with (first
        | refine wpList_store_st rfl (.tmp 10) (.tmp 57) rfl w9.heap.size StMath.zero s rfl rfl HX13.out ?_)
      clear HC10 HXa11 HB12 HX13
      generalize (w9.alloc (.cells #[.int .i64 0, .int .i64 0, .int .i64 0] 32)).setRow w9.heap.size (stL s).toArray = w18 at *
      generalize w9.heap.size = gb at *
      have HL2 : Hid (∀ m : Grown1 w18, _) := fun m => HLc.out m.w (HC14.out.later m.below HC14.out.lt)
      have hne : Nonempty (Grown1 w18) := ⟨⟨w18, Below.refl _ _⟩⟩
      obtain ⟨Xa_0, Xa_1, Xa_2⟩ := HXa15.out.cells
      have Xa_0' := fun m : Grown1 w18 => grown1_cell Xa_0 m
      have Xa_1' := fun m : Grown1 w18 => grown1_cell Xa_1 m
      have Xa_2' := fun m : Grown1 w18 => grown1_cell Xa_2 m
      clear Xa_0 Xa_1 Xa_2
      (try simp only [Act.put])
      refine wp_region_grow (by kernel_rfl) (by kernel_rfl) ?_
      repeat (go_big_quiet_step (first | with_reducible exact grown1_call _ (HL2.out _) | fail))
      refine wpQuiet_nil ?_
      intro _ hw'
      obtain ⟨n1, hw''⟩ := hw'
      subst hw''
      have HC19 : Hid (CkAt n1.w g c) := HC14.out.later n1.below HC14.out.lt
      have HXa20 : Hid (StAt n1.w ga c.s) := HXa15.out.later n1.below HXa15.out.lt
      have HXb21 : Hid (StAt n1.w gb s) := HXb17.out.later n1.below HXb17.out.lt
      have HB22 : Hid (Below W.heap.size W n1.w) := HB16.out.trans (n1.below.mono HB16.out.size)
      clear HC14 HXa15 HXb17 HB16 Xa_0' Xa_1' Xa_2' HL2
      generalize n1.w = w23 at *
      clear hne n1
      go_wp2_with fail
      refine Calls.mono (HN2.out _ HC19.out) ?_
      rintro e w24 ⟨rfl, hc24, hg24⟩
      have HC25 : Hid (CkAt w24 g c') := hc24
      have HXa26 : Hid (StAt w24 ga c.s) := HXa20.out.grown hg24 (by omega)
      have HXb27 : Hid (StAt w24 gb s) := HXb21.out.grown hg24 (by omega)
      have HB28 : Hid (Below W.heap.size W w24) := below_gr HB22.out hg24 HB22.out.size (by omega)
      clear HC19 HXa20 HXb21 HB22 hc24 hg24
      have HX29 : Hid (StAt (w24.alloc (.cells #[.int .i64 0, .int .i64 0, .int .i64 0] 32)) w24.heap.size StMath.zero) := StAt.new w24 StMath.zero rfl
      have hlt_gc_C : g < w24.heap.size := HC25.out.lt
      have hlt_gc_Xa : ga < w24.heap.size := HXa26.out.lt
      have hlt_gc_Xb : gb < w24.heap.size := HXb27.out.lt
      have hle_gc : W.heap.size ≤ w24.heap.size := HB28.out.size
      have HC30 : Hid (CkAt ((w24.alloc (.cells #[.int .i64 0, .int .i64 0, .int .i64 0] 32)).setRow w24.heap.size (stL s).toArray) g c') := CkAt.row_other (HC25.out.alloc _) _ (by omega)
      have HXa31 : Hid (StAt ((w24.alloc (.cells #[.int .i64 0, .int .i64 0, .int .i64 0] 32)).setRow w24.heap.size (stL s).toArray) ga c.s) := StAt.row_other (HXa26.out.alloc _) _ (by omega)
      have HXb32 : Hid (StAt ((w24.alloc (.cells #[.int .i64 0, .int .i64 0, .int .i64 0] 32)).setRow w24.heap.size (stL s).toArray) gb s) := StAt.row_other (HXb27.out.alloc _) _ (by omega)
      have HB33 : Hid (Below W.heap.size W ((w24.alloc (.cells #[.int .i64 0, .int .i64 0, .int .i64 0] 32)).setRow w24.heap.size (stL s).toArray)) := below_setRow (HB28.out.alloc HB28.out.size _) (by omega) _
      have HXc34 : Hid (StAt ((w24.alloc (.cells #[.int .i64 0, .int .i64 0, .int .i64 0] 32)).setRow w24.heap.size (stL s).toArray) w24.heap.size s) := StAt.row HX29.out
      go_upto_region 17 with (first
        | refine wpList_store_st rfl (.tmp 12) (.tmp 67) rfl w24.heap.size StMath.zero s rfl rfl HX29.out ?_)
      clear HC25 HXa26 HXb27 HB28 HX29
      generalize (w24.alloc (.cells #[.int .i64 0, .int .i64 0, .int .i64 0] 32)).setRow w24.heap.size (stL s).toArray = w35 at *
      generalize w24.heap.size = gc at *
      have HL3 : Hid (∀ m : Grown1 w35, _) := fun m => HLd.out m.w (HC30.out.later m.below HC30.out.lt)
      rcases hcs with ⟨rfl, H⟩ | ⟨he, H⟩
      · have H' := H.out.symm
        subst H'
        clear H
        have hne : Nonempty (Grown1 w35) := ⟨⟨w35, Below.refl _ _⟩⟩
        obtain ⟨Xa_0, Xa_1, Xa_2⟩ := HXa31.out.cells
        have Xa_0' := fun m : Grown1 w35 => grown1_cell Xa_0 m
        have Xa_1' := fun m : Grown1 w35 => grown1_cell Xa_1 m
        have Xa_2' := fun m : Grown1 w35 => grown1_cell Xa_2 m
        clear Xa_0 Xa_1 Xa_2
        obtain ⟨Xb_0, Xb_1, Xb_2⟩ := HXb32.out.cells
        have Xb_0' := fun m : Grown1 w35 => grown1_cell Xb_0 m
        have Xb_1' := fun m : Grown1 w35 => grown1_cell Xb_1 m
        have Xb_2' := fun m : Grown1 w35 => grown1_cell Xb_2 m
        clear Xb_0 Xb_1 Xb_2
        obtain ⟨Xc_0, Xc_1, Xc_2⟩ := HXc34.out.cells
        have Xc_0' := fun m : Grown1 w35 => grown1_cell Xc_0 m
        have Xc_1' := fun m : Grown1 w35 => grown1_cell Xc_1 m
        have Xc_2' := fun m : Grown1 w35 => grown1_cell Xc_2 m
        clear Xc_0 Xc_1 Xc_2
        (try dsimp only at HL3)
        (try simp only [Act.put])
        refine wp_region_grow (by kernel_rfl) (by kernel_rfl) ?_
        repeat (go_big_quiet_step (first | with_reducible exact grown1_call _ (HL3.out _) | fail))
        refine wpQuiet_nil ?_
        intro _ hw'
        obtain ⟨n1, hw''⟩ := hw'
        subst hw''
        have HC36 : Hid (CkAt n1.w g ⟨s, c.m, c.d⟩) := HC30.out.later n1.below HC30.out.lt
        have HXa37 : Hid (StAt n1.w ga c.s) := HXa31.out.later n1.below HXa31.out.lt
        have HXb38 : Hid (StAt n1.w gb s) := HXb32.out.later n1.below HXb32.out.lt
        have HXc39 : Hid (StAt n1.w gc s) := HXc34.out.later n1.below HXc34.out.lt
        have HB40 : Hid (Below W.heap.size W n1.w) := HB33.out.trans (n1.below.mono HB33.out.size)
        clear HC30 HXa31 HXb32 HXc34 HB33 Xa_0' Xa_1' Xa_2' Xb_0' Xb_1' Xb_2' Xc_0' Xc_1' Xc_2' HL3
        generalize n1.w = w41 at *
        clear hne n1
        go_wp2
        go_roundw
        case rel => exact ⟨j + 1, _, by omega, by go_num, HC36.out, HO'.out, HB40.out⟩
        case measure => simp [intOf]; omega
      · have H' := H.out.symm
        subst H'
        clear H
        have he2 : (e != 0) = true := by simp at he ⊢; exact he
        have he3 : (!(e == 0)) = true := by rw [he]; rfl
        have hne : Nonempty (Grown1 w35) := ⟨⟨w35, Below.refl _ _⟩⟩
        obtain ⟨Xa_0, Xa_1, Xa_2⟩ := HXa31.out.cells
        have Xa_0' := fun m : Grown1 w35 => grown1_cell Xa_0 m
        have Xa_1' := fun m : Grown1 w35 => grown1_cell Xa_1 m
        have Xa_2' := fun m : Grown1 w35 => grown1_cell Xa_2 m
        clear Xa_0 Xa_1 Xa_2
        obtain ⟨Xb_0, Xb_1, Xb_2⟩ := HXb32.out.cells
        have Xb_0' := fun m : Grown1 w35 => grown1_cell Xb_0 m
        have Xb_1' := fun m : Grown1 w35 => grown1_cell Xb_1 m
        have Xb_2' := fun m : Grown1 w35 => grown1_cell Xb_2 m
        clear Xb_0 Xb_1 Xb_2
        obtain ⟨Xc_0, Xc_1, Xc_2⟩ := HXc34.out.cells
        have Xc_0' := fun m : Grown1 w35 => grown1_cell Xc_0 m
        have Xc_1' := fun m : Grown1 w35 => grown1_cell Xc_1 m
        have Xc_2' := fun m : Grown1 w35 => grown1_cell Xc_2 m
        clear Xc_0 Xc_1 Xc_2
        (try dsimp only at HL3)
        (try simp only [Act.put])
        refine wp_region_grow (by kernel_rfl) (by kernel_rfl) ?_
        repeat (go_big_quiet_step (first | with_reducible exact grown1_call _ (HL3.out _) | fail))
        refine wpQuiet_nil ?_
        intro _ hw'
        obtain ⟨n1, hw''⟩ := hw'
        subst hw''
        have HC36 : Hid (CkAt n1.w g c) := HC30.out.later n1.below HC30.out.lt
        have HXa37 : Hid (StAt n1.w ga c.s) := HXa31.out.later n1.below HXa31.out.lt
        have HXb38 : Hid (StAt n1.w gb s) := HXb32.out.later n1.below HXb32.out.lt
        have HXc39 : Hid (StAt n1.w gc s) := HXc34.out.later n1.below HXc34.out.lt
        have HB40 : Hid (Below W.heap.size W n1.w) := HB33.out.trans (n1.below.mono HB33.out.size)
        clear HC30 HXa31 HXb32 HXc34 HB33 Xa_0' Xa_1' Xa_2' Xb_0' Xb_1' Xb_2' Xc_0' Xc_1' Xc_2' HL3
        generalize n1.w = w41 at *
        clear hne n1
        go_wp2
        go_roundw
        case rel => exact ⟨j + 1, _, by omega, by go_num, HC36.out, HO'.out, HB40.out⟩
        case measure => simp [intOf]; omega
    · have hjk : j = n := by omega
      have hdk : decide ((j : Int) < (n : Int)) = false := by simp; omega
      go_wp2
      go_ret
      exact ⟨rfl, HB.out⟩
end Go.Proofs.Ytecijlgkadlmnaa
