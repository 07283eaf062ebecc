/-
  The walk of HlcDrift.
-/
import Derived.Test.YtecijlgkadlmnaaL8Known
import Derived.Test.YtecijlgkadlmnaaHlcLaws
import Derived.Test.YtecijlgkadlmnaaDriftMath
import Derived.Deep.Cut
namespace Go.Proofs.Ytecijlgkadlmnaa
open Go.RowKit NumMath
open StMath (St)
open HlcMath (Ck)
set_option maxRecDepth 100000
set_option linter.unusedVariables false
set_option linter.unusedSimpArgs false

set_option maxRecDepth 100000 in
set_option maxHeartbeats 16000000 in
theorem hlcDriftA (dr nw : Int) (s : St) (k : Int) (W : World) (wk : (Lit.int .u8 k).wf = true) (d n l sr r : Int) (e1 : bits .and .i64 dr 65535 = d) (e2 : bits .and .i64 nw 16777215 = n) (e3 : bits .and .i64 s.r 63 = sr) (e4 : bits .and .i64 s.l 65535 = l) (e5 : k % 64 = r)
    (d0 : 0 ≤ d) (d1 : d ≤ 65535) (n0 : 0 ≤ n) (n1 : n ≤ 16777215) (l0 : 0 ≤ l) (l1 : l ≤ 65535) (s0 : 0 ≤ sr) (s1 : sr < 64) (r0 : 0 ≤ r) (r1 : r < 64) (hz : n + d = 0) :
    Calls Try.prog 5 #[.int .i64 dr, .int .i64 nw, stV s, .int .u8 k] W fun e w' => e = .returned (.bool true) ∧ Below W.heap.size W w' := by
  have hkb := bounds_u8 wk
  have e6 : IntKind.i64.wrap (n + d) = n + d := wrap_small (by omega) (by omega)
  have e7 : IntKind.i64.wrap (n + d + 1) = n + d + 1 := wrap_small (by omega) (by omega)
  have e8 : IntKind.i64.wrap (n + 1) = n + 1 := wrap_small (by omega) (by omega)
  have HK : Hid (∀ w, _) := fun w => known8_any w
  have HFar : Hid _ := HlcMath.dr_far (r := r) d0 d1 n0 n1 s0 s1
  have HEd : Hid _ := HlcMath.dr_edge (r := r) d0 d1 n0 n1 l0 l1 s0 s1
  obtain ⟨c1, hc1⟩ : ∃ c1, HlcMath.witness ⟨⟨0, 0, r⟩, 0, d⟩ n ⟨n + d, l, sr⟩ = c1 := ⟨_, rfl⟩
  have HW : Hid _ := hc1
  have hz2 : ((n + d) == 0) = true := by simp [hz]
  have HB0 : Hid (Below W.heap.size W (W.alloc (.cells #[.int .i64 s.p, .int .i64 s.l, .int .i64 s.r] 32))) := (Below.refl _ _).alloc (Nat.le_refl _) _
  have HS0 : Hid (StAt (W.alloc (.cells #[.int .i64 s.p, .int .i64 s.l, .int .i64 s.r] 32)) W.heap.size s) := StAt.new W s rfl
  clear hc1
  clear hz wk
  unfold stV
  go_enter Try.func5, Try.ntmps5
  go_upto_region 1 with (fail)
  generalize W.alloc (.cells #[.int .i64 s.p, .int .i64 s.l, .int .i64 s.r] 32) = w0 at *
  generalize hgs : W.heap.size = gs at HS0 ⊢
  have hgsW : W.heap.size ≤ gs := by omega
  go_wp2_with fail
  refine Calls.mono (HK.out _) ?_
  rintro e w1 ⟨rfl, hb1⟩
  have HS2 : Hid (StAt w1 gs s) := HS0.out.later hb1 HS0.out.lt
  have HB3 : Hid (Below W.heap.size W w1) := HB0.out.trans (hb1.mono HB0.out.size)
  clear HS0 HB0 hb1
  clear HK
  go_wp2_with fail
  refine Calls.mono (new_any r 0 d _) ?_
  rintro e w2 ⟨hb2, ⟨hk, _⟩ | ⟨hok, g, hg, rfl, hc2⟩⟩
  · exact absurd (newOk_iff.2 ⟨r0, r1, by decide, by decide, d0, by omega⟩ : newOk r 0 d = true) (by rw [hk]; decide)
  have HS4 : Hid (StAt w2 gs s) := HS2.out.later hb2 HS2.out.lt
  have HB5 : Hid (Below W.heap.size W w2) := HB3.out.trans (hb2.mono HB3.out.size)
  have hgW : W.heap.size ≤ g := Nat.le_trans HB3.out.size hg
  have HC6 : Hid (CkAt w2 g ⟨⟨0, 0, r⟩, 0, d⟩) := hc2
  have HO0 : Hid (HlcMath.Ok ⟨⟨0, 0, r⟩, 0, d⟩) := newOk_ok hok
  have hgsg : gs < g := by have := HS2.out.lt; omega
  clear HS2 HB3 hb2 hc2 hg hok
  have HWf : Hid (∀ w, CkAt w g ⟨⟨0, 0, r⟩, 0, d⟩ → _) := fun w hc => witness_any g ⟨⟨0, 0, r⟩, 0, d⟩ n ⟨n + d + 1, 0, sr⟩ w hc HO0.out
  have HLc : Hid (∀ w, CkAt w g ⟨⟨0, 0, r⟩, 0, d⟩ → _) := fun w hc => last_any g ⟨⟨0, 0, r⟩, 0, d⟩ w hc
  have HCe : Hid (∀ w, CkAt w g ⟨⟨0, 0, r⟩, 0, d⟩ → _) := fun w hc => check_any g ⟨⟨0, 0, r⟩, 0, d⟩ n ⟨n + d, l, sr⟩ w hc HO0.out
  have HWe : Hid (∀ w, CkAt w g ⟨⟨0, 0, r⟩, 0, d⟩ → _) := fun w hc => witness_any g ⟨⟨0, 0, r⟩, 0, d⟩ n ⟨n + d, l, sr⟩ w hc HO0.out
  have HO1 : Hid (HlcMath.Ok c1) := by have := witness_ok HO0.out n ⟨n + d, l, sr⟩; rw [HW.out] at this; exact this
  rw [HFar.out.1, HFar.out.2] at HWf
  rw [HEd.out] at HCe HWe
  rw [HW.out] at HWe
  unfold stV at HWf HLc HCe HWe
  dsimp only at HWf HLc HCe HWe
  have HLd : Hid (∀ w, CkAt w g c1 → _) := fun w hc => last_any g c1 w hc
  unfold stV at HLd
  (try dsimp only at HLd)
  clear HFar HEd HW HO0
  obtain ⟨S_0, S_1, S_2⟩ := HS4.out.cells
  go_upto_region 7 with (fail)
  have HX7 : Hid (StAt (w2.alloc (.cells #[.int .i64 0, .int .i64 0, .int .i64 0] 32)) w2.heap.size StMath.zero) := StAt.new w2 StMath.zero rfl
  have hlt_gf_S : gs < w2.heap.size := HS4.out.lt
  have hlt_gf_C : g < w2.heap.size := HC6.out.lt
  have hle_gf : W.heap.size ≤ w2.heap.size := HB5.out.size
  have HS8 : Hid (StAt ((w2.alloc (.cells #[.int .i64 0, .int .i64 0, .int .i64 0] 32)).setRow w2.heap.size (stL ⟨n + d + 1, 0, sr⟩).toArray) gs s) := StAt.row_other (HS4.out.alloc _) _ (by omega)
  have HC9 : Hid (CkAt ((w2.alloc (.cells #[.int .i64 0, .int .i64 0, .int .i64 0] 32)).setRow w2.heap.size (stL ⟨n + d + 1, 0, sr⟩).toArray) g ⟨⟨0, 0, r⟩, 0, d⟩) := CkAt.row_other (HC6.out.alloc _) _ (by omega)
  have HB10 : Hid (Below W.heap.size W ((w2.alloc (.cells #[.int .i64 0, .int .i64 0, .int .i64 0] 32)).setRow w2.heap.size (stL ⟨n + d + 1, 0, sr⟩).toArray)) := below_setRow (HB5.out.alloc HB5.out.size _) (by omega) _
  have HF11 : Hid (StAt ((w2.alloc (.cells #[.int .i64 0, .int .i64 0, .int .i64 0] 32)).setRow w2.heap.size (stL ⟨n + d + 1, 0, sr⟩).toArray) w2.heap.size ⟨n + d + 1, 0, sr⟩) := StAt.row HX7.out
  go_upto_region 8 with (first
    | refine wpList_store_st rfl (.tmp 11) (.tmp 45) rfl w2.heap.size StMath.zero ⟨n + d + 1, 0, sr⟩ rfl rfl HX7.out ?_)
  clear HS4 HC6 HB5 HX7
  generalize (w2.alloc (.cells #[.int .i64 0, .int .i64 0, .int .i64 0] 32)).setRow w2.heap.size (stL ⟨n + d + 1, 0, sr⟩).toArray = w12 at *
  generalize w2.heap.size = gf at *
  clear S_0 S_1 S_2
  obtain ⟨S_0, S_1, S_2⟩ := HS8.out.cells
  have HX13 : Hid (StAt (w12.alloc (.cells #[.int .i64 0, .int .i64 0, .int .i64 0] 32)) w12.heap.size StMath.zero) := StAt.new w12 StMath.zero rfl
  have hlt_ge_S : gs < w12.heap.size := HS8.out.lt
  have hlt_ge_C : g < w12.heap.size := HC9.out.lt
  have hlt_ge_F : gf < w12.heap.size := HF11.out.lt
  have hle_ge : W.heap.size ≤ w12.heap.size := HB10.out.size
  have HS14 : Hid (StAt ((w12.alloc (.cells #[.int .i64 0, .int .i64 0, .int .i64 0] 32)).setRow w12.heap.size (stL ⟨n + d, l, sr⟩).toArray) gs s) := StAt.row_other (HS8.out.alloc _) _ (by omega)
  have HC15 : Hid (CkAt ((w12.alloc (.cells #[.int .i64 0, .int .i64 0, .int .i64 0] 32)).setRow w12.heap.size (stL ⟨n + d, l, sr⟩).toArray) g ⟨⟨0, 0, r⟩, 0, d⟩) := CkAt.row_other (HC9.out.alloc _) _ (by omega)
  have HF16 : Hid (StAt ((w12.alloc (.cells #[.int .i64 0, .int .i64 0, .int .i64 0] 32)).setRow w12.heap.size (stL ⟨n + d, l, sr⟩).toArray) gf ⟨n + d + 1, 0, sr⟩) := StAt.row_other (HF11.out.alloc _) _ (by omega)
  have HB17 : Hid (Below W.heap.size W ((w12.alloc (.cells #[.int .i64 0, .int .i64 0, .int .i64 0] 32)).setRow w12.heap.size (stL ⟨n + d, l, sr⟩).toArray)) := below_setRow (HB10.out.alloc HB10.out.size _) (by omega) _
  have HE18 : Hid (StAt ((w12.alloc (.cells #[.int .i64 0, .int .i64 0, .int .i64 0] 32)).setRow w12.heap.size (stL ⟨n + d, l, sr⟩).toArray) w12.heap.size ⟨n + d, l, sr⟩) := StAt.row HX13.out
  go_upto_region 9 with (first
    | refine wpList_store_st rfl (.tmp 12) (.tmp 55) rfl w12.heap.size StMath.zero ⟨n + d, l, sr⟩ rfl rfl HX13.out ?_)
  clear HS8 HC9 HF11 HB10 HX13
  generalize (w12.alloc (.cells #[.int .i64 0, .int .i64 0, .int .i64 0] 32)).setRow w12.heap.size (stL ⟨n + d, l, sr⟩).toArray = w19 at *
  generalize w12.heap.size = ge at *
  clear S_0 S_1 S_2
  obtain ⟨F_0, F_1, F_2⟩ := HF16.out.cells
  go_wp2_with fail
  refine Calls.mono (HWf.out _ HC15.out) ?_
  rintro e w20 ⟨rfl, hc20, hg20⟩
  have HS21 : Hid (StAt w20 gs s) := HS14.out.grown hg20 (by omega)
  have HC22 : Hid (CkAt w20 g ⟨⟨0, 0, r⟩, 0, d⟩) := hc20
  have HF23 : Hid (StAt w20 gf ⟨n + d + 1, 0, sr⟩) := HF16.out.grown hg20 (by omega)
  have HE24 : Hid (StAt w20 ge ⟨n + d, l, sr⟩) := HE18.out.grown hg20 (by omega)
  have HB25 : Hid (Below W.heap.size W w20) := below_gr HB17.out hg20 HB17.out.size (by omega)
  clear HS14 HC15 HF16 HE18 HB17 hc20 hg20
  clear F_0 F_1 F_2
  go_wp2_with fail
  refine Calls.mono (HLc.out _ HC22.out) ?_
  rintro e w26 ⟨rfl, hb26⟩
  have HS27 : Hid (StAt w26 gs s) := HS21.out.later hb26 HS21.out.lt
  have HC28 : Hid (CkAt w26 g ⟨⟨0, 0, r⟩, 0, d⟩) := HC22.out.later hb26 HC22.out.lt
  have HF29 : Hid (StAt w26 gf ⟨n + d + 1, 0, sr⟩) := HF23.out.later hb26 HF23.out.lt
  have HE30 : Hid (StAt w26 ge ⟨n + d, l, sr⟩) := HE24.out.later hb26 HE24.out.lt
  have HB31 : Hid (Below W.heap.size W w26) := HB25.out.trans (hb26.mono HB25.out.size)
  clear HS21 HC22 HF23 HE24 HB25 hb26
  obtain ⟨E_0, E_1, E_2⟩ := HE30.out.cells
  go_wp2_with fail
  refine Calls.mono (HCe.out _ HC28.out) ?_
  rintro e w32 ⟨rfl, hb32⟩
  have HS33 : Hid (StAt w32 gs s) := HS27.out.later hb32 HS27.out.lt
  have HC34 : Hid (CkAt w32 g ⟨⟨0, 0, r⟩, 0, d⟩) := HC28.out.later hb32 HC28.out.lt
  have HF35 : Hid (StAt w32 gf ⟨n + d + 1, 0, sr⟩) := HF29.out.later hb32 HF29.out.lt
  have HE36 : Hid (StAt w32 ge ⟨n + d, l, sr⟩) := HE30.out.later hb32 HE30.out.lt
  have HB37 : Hid (Below W.heap.size W w32) := HB31.out.trans (hb32.mono HB31.out.size)
  clear HS27 HC28 HF29 HE30 HB31 hb32
  clear E_0 E_1 E_2
  go_wp2_with fail
  refine Calls.mono (HLc.out _ HC34.out) ?_
  rintro e w38 ⟨rfl, hb38⟩
  have HS39 : Hid (StAt w38 gs s) := HS33.out.later hb38 HS33.out.lt
  have HC40 : Hid (CkAt w38 g ⟨⟨0, 0, r⟩, 0, d⟩) := HC34.out.later hb38 HC34.out.lt
  have HF41 : Hid (StAt w38 gf ⟨n + d + 1, 0, sr⟩) := HF35.out.later hb38 HF35.out.lt
  have HE42 : Hid (StAt w38 ge ⟨n + d, l, sr⟩) := HE36.out.later hb38 HE36.out.lt
  have HB43 : Hid (Below W.heap.size W w38) := HB37.out.trans (hb38.mono HB37.out.size)
  clear HS33 HC34 HF35 HE36 HB37 hb38
  obtain ⟨E_0, E_1, E_2⟩ := HE42.out.cells
  go_wp2_with fail
  refine Calls.mono (HWe.out _ HC40.out) ?_
  rintro e w44 ⟨rfl, hc44, hg44⟩
  have HS45 : Hid (StAt w44 gs s) := HS39.out.grown hg44 (by omega)
  have HC46 : Hid (CkAt w44 g c1) := hc44
  have HF47 : Hid (StAt w44 gf ⟨n + d + 1, 0, sr⟩) := HF41.out.grown hg44 (by omega)
  have HE48 : Hid (StAt w44 ge ⟨n + d, l, sr⟩) := HE42.out.grown hg44 (by omega)
  have HB49 : Hid (Below W.heap.size W w44) := below_gr HB43.out hg44 HB43.out.size (by omega)
  clear HS39 HC40 HF41 HE42 HB43 hc44 hg44
  clear E_0 E_1 E_2
  go_wp2_with fail
  refine Calls.mono (HLd.out _ HC46.out) ?_
  rintro e w50 ⟨rfl, hb50⟩
  have HS51 : Hid (StAt w50 gs s) := HS45.out.later hb50 HS45.out.lt
  have HC52 : Hid (CkAt w50 g c1) := HC46.out.later hb50 HC46.out.lt
  have HF53 : Hid (StAt w50 gf ⟨n + d + 1, 0, sr⟩) := HF47.out.later hb50 HF47.out.lt
  have HE54 : Hid (StAt w50 ge ⟨n + d, l, sr⟩) := HE48.out.later hb50 HE48.out.lt
  have HB55 : Hid (Below W.heap.size W w50) := HB49.out.trans (hb50.mono HB49.out.size)
  clear HS45 HC46 HF47 HE48 HB49 hb50
  have HX56 : Hid (StAt (w50.alloc (.cells #[.int .i64 0, .int .i64 0, .int .i64 0] 32)) w50.heap.size StMath.zero) := StAt.new w50 StMath.zero rfl
  have hlt_gv_S : gs < w50.heap.size := HS51.out.lt
  have hlt_gv_C : g < w50.heap.size := HC52.out.lt
  have hlt_gv_F : gf < w50.heap.size := HF53.out.lt
  have hlt_gv_E : ge < w50.heap.size := HE54.out.lt
  have hle_gv : W.heap.size ≤ w50.heap.size := HB55.out.size
  have HS57 : Hid (StAt ((w50.alloc (.cells #[.int .i64 0, .int .i64 0, .int .i64 0] 32)).setRow w50.heap.size (stL c1.s).toArray) gs s) := StAt.row_other (HS51.out.alloc _) _ (by omega)
  have HC58 : Hid (CkAt ((w50.alloc (.cells #[.int .i64 0, .int .i64 0, .int .i64 0] 32)).setRow w50.heap.size (stL c1.s).toArray) g c1) := CkAt.row_other (HC52.out.alloc _) _ (by omega)
  have HF59 : Hid (StAt ((w50.alloc (.cells #[.int .i64 0, .int .i64 0, .int .i64 0] 32)).setRow w50.heap.size (stL c1.s).toArray) gf ⟨n + d + 1, 0, sr⟩) := StAt.row_other (HF53.out.alloc _) _ (by omega)
  have HE60 : Hid (StAt ((w50.alloc (.cells #[.int .i64 0, .int .i64 0, .int .i64 0] 32)).setRow w50.heap.size (stL c1.s).toArray) ge ⟨n + d, l, sr⟩) := StAt.row_other (HE54.out.alloc _) _ (by omega)
  have HB61 : Hid (Below W.heap.size W ((w50.alloc (.cells #[.int .i64 0, .int .i64 0, .int .i64 0] 32)).setRow w50.heap.size (stL c1.s).toArray)) := below_setRow (HB55.out.alloc HB55.out.size _) (by omega) _
  have HV62 : Hid (StAt ((w50.alloc (.cells #[.int .i64 0, .int .i64 0, .int .i64 0] 32)).setRow w50.heap.size (stL c1.s).toArray) w50.heap.size c1.s) := StAt.row HX56.out
  go_upto_region 16 with (first
    | refine wpList_store_st rfl (.tmp 13) (.tmp 90) rfl w50.heap.size StMath.zero c1.s rfl rfl HX56.out ?_)
  clear HS51 HC52 HF53 HE54 HB55 HX56
  generalize (w50.alloc (.cells #[.int .i64 0, .int .i64 0, .int .i64 0] 32)).setRow w50.heap.size (stL c1.s).toArray = w63 at *
  generalize w50.heap.size = gv at *
  obtain ⟨E_0, E_1, E_2⟩ := HE60.out.cells
  go_wp2
  go_ret
  exact ⟨rfl, by rw [← hgs]; exact HB61.out⟩

set_option maxRecDepth 100000 in
set_option maxHeartbeats 16000000 in
theorem hlcDriftB (dr nw : Int) (s : St) (k : Int) (W : World) (wk : (Lit.int .u8 k).wf = true) (d n l sr r : Int) (e1 : bits .and .i64 dr 65535 = d) (e2 : bits .and .i64 nw 16777215 = n) (e3 : bits .and .i64 s.r 63 = sr) (e4 : bits .and .i64 s.l 65535 = l) (e5 : k % 64 = r)
    (d0 : 0 ≤ d) (d1 : d ≤ 65535) (n0 : 0 ≤ n) (n1 : n ≤ 16777215) (l0 : 0 ≤ l) (l1 : l ≤ 65535) (s0 : 0 ≤ sr) (s1 : sr < 64) (r0 : 0 ≤ r) (r1 : r < 64) (hz : ¬ n + d = 0) :
    Calls Try.prog 5 #[.int .i64 dr, .int .i64 nw, stV s, .int .u8 k] W fun e w' => e = .returned (.bool true) ∧ Below W.heap.size W w' := by
  have hkb := bounds_u8 wk
  have e6 : IntKind.i64.wrap (n + d) = n + d := wrap_small (by omega) (by omega)
  have e7 : IntKind.i64.wrap (n + d + 1) = n + d + 1 := wrap_small (by omega) (by omega)
  have e8 : IntKind.i64.wrap (n + 1) = n + 1 := wrap_small (by omega) (by omega)
  have HK : Hid (∀ w, _) := fun w => known8_any w
  have HFar : Hid _ := HlcMath.dr_far (r := r) d0 d1 n0 n1 s0 s1
  have HEd : Hid _ := HlcMath.dr_edge (r := r) d0 d1 n0 n1 l0 l1 s0 s1
  have HW : Hid _ := HlcMath.dr_wit (r := r) d0 d1 n0 n1 l0 l1 s0 s1 hz
  have HNa : Hid _ := HlcMath.dr_next (r := r) d0 d1 n0 n1 l0
  have HNb : Hid _ := HlcMath.dr_next2 (r := r) d0 d1 n0 n1 l0
  have HMx : Hid (StMath.maxS [⟨n + d + 1, 0, r⟩, ⟨n + d, l, r⟩] = ⟨n + d + 1, 0, r⟩) := HlcMath.dr_max
  have hz2 : ((n + d) == 0) = false := by simp [hz]
  have HB0 : Hid (Below W.heap.size W (W.alloc (.cells #[.int .i64 s.p, .int .i64 s.l, .int .i64 s.r] 32))) := (Below.refl _ _).alloc (Nat.le_refl _) _
  have HS0 : Hid (StAt (W.alloc (.cells #[.int .i64 s.p, .int .i64 s.l, .int .i64 s.r] 32)) W.heap.size s) := StAt.new W s rfl
  skip
  clear hz wk
  unfold stV
  go_enter Try.func5, Try.ntmps5
  go_upto_region 1 with (fail)
  generalize W.alloc (.cells #[.int .i64 s.p, .int .i64 s.l, .int .i64 s.r] 32) = w0 at *
  generalize hgs : W.heap.size = gs at HS0 ⊢
  have hgsW : W.heap.size ≤ gs := by omega
  go_wp2_with fail
  refine Calls.mono (HK.out _) ?_
  rintro e w1 ⟨rfl, hb1⟩
  have HS2 : Hid (StAt w1 gs s) := HS0.out.later hb1 HS0.out.lt
  have HB3 : Hid (Below W.heap.size W w1) := HB0.out.trans (hb1.mono HB0.out.size)
  clear HS0 HB0 hb1
  clear HK
  go_wp2_with fail
  refine Calls.mono (new_any r 0 d _) ?_
  rintro e w2 ⟨hb2, ⟨hk, _⟩ | ⟨hok, g, hg, rfl, hc2⟩⟩
  · exact absurd (newOk_iff.2 ⟨r0, r1, by decide, by decide, d0, by omega⟩ : newOk r 0 d = true) (by rw [hk]; decide)
  have HS4 : Hid (StAt w2 gs s) := HS2.out.later hb2 HS2.out.lt
  have HB5 : Hid (Below W.heap.size W w2) := HB3.out.trans (hb2.mono HB3.out.size)
  have hgW : W.heap.size ≤ g := Nat.le_trans HB3.out.size hg
  have HC6 : Hid (CkAt w2 g ⟨⟨0, 0, r⟩, 0, d⟩) := hc2
  have HO0 : Hid (HlcMath.Ok ⟨⟨0, 0, r⟩, 0, d⟩) := newOk_ok hok
  have hgsg : gs < g := by have := HS2.out.lt; omega
  clear HS2 HB3 hb2 hc2 hg hok
  have HWf : Hid (∀ w, CkAt w g ⟨⟨0, 0, r⟩, 0, d⟩ → _) := fun w hc => witness_any g ⟨⟨0, 0, r⟩, 0, d⟩ n ⟨n + d + 1, 0, sr⟩ w hc HO0.out
  have HLc : Hid (∀ w, CkAt w g ⟨⟨0, 0, r⟩, 0, d⟩ → _) := fun w hc => last_any g ⟨⟨0, 0, r⟩, 0, d⟩ w hc
  have HCe : Hid (∀ w, CkAt w g ⟨⟨0, 0, r⟩, 0, d⟩ → _) := fun w hc => check_any g ⟨⟨0, 0, r⟩, 0, d⟩ n ⟨n + d, l, sr⟩ w hc HO0.out
  have HWe : Hid (∀ w, CkAt w g ⟨⟨0, 0, r⟩, 0, d⟩ → _) := fun w hc => witness_any g ⟨⟨0, 0, r⟩, 0, d⟩ n ⟨n + d, l, sr⟩ w hc HO0.out
  have HO1 : Hid (HlcMath.Ok ⟨⟨n + d, l, r⟩, 0, d⟩) := by have := witness_ok HO0.out n ⟨n + d, l, sr⟩; rw [HW.out] at this; exact this
  rw [HFar.out.1, HFar.out.2] at HWf
  rw [HEd.out] at HCe HWe
  rw [HW.out] at HWe
  unfold stV at HWf HLc HCe HWe
  dsimp only at HWf HLc HCe HWe
  have HLd : Hid (∀ w, CkAt w g ⟨⟨n + d, l, r⟩, 0, d⟩ → _) := fun w hc => last_any g ⟨⟨n + d, l, r⟩, 0, d⟩ w hc
  unfold stV at HLd
  (try dsimp only at HLd)
  clear HFar HEd HW HO0
  obtain ⟨S_0, S_1, S_2⟩ := HS4.out.cells
  go_upto_region 7 with (fail)
  have HX7 : Hid (StAt (w2.alloc (.cells #[.int .i64 0, .int .i64 0, .int .i64 0] 32)) w2.heap.size StMath.zero) := StAt.new w2 StMath.zero rfl
  have hlt_gf_S : gs < w2.heap.size := HS4.out.lt
  have hlt_gf_C : g < w2.heap.size := HC6.out.lt
  have hle_gf : W.heap.size ≤ w2.heap.size := HB5.out.size
  have HS8 : Hid (StAt ((w2.alloc (.cells #[.int .i64 0, .int .i64 0, .int .i64 0] 32)).setRow w2.heap.size (stL ⟨n + d + 1, 0, sr⟩).toArray) gs s) := StAt.row_other (HS4.out.alloc _) _ (by omega)
  have HC9 : Hid (CkAt ((w2.alloc (.cells #[.int .i64 0, .int .i64 0, .int .i64 0] 32)).setRow w2.heap.size (stL ⟨n + d + 1, 0, sr⟩).toArray) g ⟨⟨0, 0, r⟩, 0, d⟩) := CkAt.row_other (HC6.out.alloc _) _ (by omega)
  have HB10 : Hid (Below W.heap.size W ((w2.alloc (.cells #[.int .i64 0, .int .i64 0, .int .i64 0] 32)).setRow w2.heap.size (stL ⟨n + d + 1, 0, sr⟩).toArray)) := below_setRow (HB5.out.alloc HB5.out.size _) (by omega) _
  have HF11 : Hid (StAt ((w2.alloc (.cells #[.int .i64 0, .int .i64 0, .int .i64 0] 32)).setRow w2.heap.size (stL ⟨n + d + 1, 0, sr⟩).toArray) w2.heap.size ⟨n + d + 1, 0, sr⟩) := StAt.row HX7.out
  go_upto_region 8 with (first
    | refine wpList_store_st rfl (.tmp 11) (.tmp 45) rfl w2.heap.size StMath.zero ⟨n + d + 1, 0, sr⟩ rfl rfl HX7.out ?_)
  clear HS4 HC6 HB5 HX7
  generalize (w2.alloc (.cells #[.int .i64 0, .int .i64 0, .int .i64 0] 32)).setRow w2.heap.size (stL ⟨n + d + 1, 0, sr⟩).toArray = w12 at *
  generalize w2.heap.size = gf at *
  clear S_0 S_1 S_2
  obtain ⟨S_0, S_1, S_2⟩ := HS8.out.cells
  have HX13 : Hid (StAt (w12.alloc (.cells #[.int .i64 0, .int .i64 0, .int .i64 0] 32)) w12.heap.size StMath.zero) := StAt.new w12 StMath.zero rfl
  have hlt_ge_S : gs < w12.heap.size := HS8.out.lt
  have hlt_ge_C : g < w12.heap.size := HC9.out.lt
  have hlt_ge_F : gf < w12.heap.size := HF11.out.lt
  have hle_ge : W.heap.size ≤ w12.heap.size := HB10.out.size
  have HS14 : Hid (StAt ((w12.alloc (.cells #[.int .i64 0, .int .i64 0, .int .i64 0] 32)).setRow w12.heap.size (stL ⟨n + d, l, sr⟩).toArray) gs s) := StAt.row_other (HS8.out.alloc _) _ (by omega)
  have HC15 : Hid (CkAt ((w12.alloc (.cells #[.int .i64 0, .int .i64 0, .int .i64 0] 32)).setRow w12.heap.size (stL ⟨n + d, l, sr⟩).toArray) g ⟨⟨0, 0, r⟩, 0, d⟩) := CkAt.row_other (HC9.out.alloc _) _ (by omega)
  have HF16 : Hid (StAt ((w12.alloc (.cells #[.int .i64 0, .int .i64 0, .int .i64 0] 32)).setRow w12.heap.size (stL ⟨n + d, l, sr⟩).toArray) gf ⟨n + d + 1, 0, sr⟩) := StAt.row_other (HF11.out.alloc _) _ (by omega)
  have HB17 : Hid (Below W.heap.size W ((w12.alloc (.cells #[.int .i64 0, .int .i64 0, .int .i64 0] 32)).setRow w12.heap.size (stL ⟨n + d, l, sr⟩).toArray)) := below_setRow (HB10.out.alloc HB10.out.size _) (by omega) _
  have HE18 : Hid (StAt ((w12.alloc (.cells #[.int .i64 0, .int .i64 0, .int .i64 0] 32)).setRow w12.heap.size (stL ⟨n + d, l, sr⟩).toArray) w12.heap.size ⟨n + d, l, sr⟩) := StAt.row HX13.out
  go_upto_region 9 with (first
    | refine wpList_store_st rfl (.tmp 12) (.tmp 55) rfl w12.heap.size StMath.zero ⟨n + d, l, sr⟩ rfl rfl HX13.out ?_)
  clear HS8 HC9 HF11 HB10 HX13
  generalize (w12.alloc (.cells #[.int .i64 0, .int .i64 0, .int .i64 0] 32)).setRow w12.heap.size (stL ⟨n + d, l, sr⟩).toArray = w19 at *
  generalize w12.heap.size = ge at *
  clear S_0 S_1 S_2
  obtain ⟨F_0, F_1, F_2⟩ := HF16.out.cells
  go_wp2_with fail
  refine Calls.mono (HWf.out _ HC15.out) ?_
  rintro e w20 ⟨rfl, hc20, hg20⟩
  have HS21 : Hid (StAt w20 gs s) := HS14.out.grown hg20 (by omega)
  have HC22 : Hid (CkAt w20 g ⟨⟨0, 0, r⟩, 0, d⟩) := hc20
  have HF23 : Hid (StAt w20 gf ⟨n + d + 1, 0, sr⟩) := HF16.out.grown hg20 (by omega)
  have HE24 : Hid (StAt w20 ge ⟨n + d, l, sr⟩) := HE18.out.grown hg20 (by omega)
  have HB25 : Hid (Below W.heap.size W w20) := below_gr HB17.out hg20 HB17.out.size (by omega)
  clear HS14 HC15 HF16 HE18 HB17 hc20 hg20
  clear F_0 F_1 F_2
  go_wp2_with fail
  refine Calls.mono (HLc.out _ HC22.out) ?_
  rintro e w26 ⟨rfl, hb26⟩
  have HS27 : Hid (StAt w26 gs s) := HS21.out.later hb26 HS21.out.lt
  have HC28 : Hid (CkAt w26 g ⟨⟨0, 0, r⟩, 0, d⟩) := HC22.out.later hb26 HC22.out.lt
  have HF29 : Hid (StAt w26 gf ⟨n + d + 1, 0, sr⟩) := HF23.out.later hb26 HF23.out.lt
  have HE30 : Hid (StAt w26 ge ⟨n + d, l, sr⟩) := HE24.out.later hb26 HE24.out.lt
  have HB31 : Hid (Below W.heap.size W w26) := HB25.out.trans (hb26.mono HB25.out.size)
  clear HS21 HC22 HF23 HE24 HB25 hb26
  obtain ⟨E_0, E_1, E_2⟩ := HE30.out.cells
  go_wp2_with fail
  refine Calls.mono (HCe.out _ HC28.out) ?_
  rintro e w32 ⟨rfl, hb32⟩
  have HS33 : Hid (StAt w32 gs s) := HS27.out.later hb32 HS27.out.lt
  have HC34 : Hid (CkAt w32 g ⟨⟨0, 0, r⟩, 0, d⟩) := HC28.out.later hb32 HC28.out.lt
  have HF35 : Hid (StAt w32 gf ⟨n + d + 1, 0, sr⟩) := HF29.out.later hb32 HF29.out.lt
  have HE36 : Hid (StAt w32 ge ⟨n + d, l, sr⟩) := HE30.out.later hb32 HE30.out.lt
  have HB37 : Hid (Below W.heap.size W w32) := HB31.out.trans (hb32.mono HB31.out.size)
  clear HS27 HC28 HF29 HE30 HB31 hb32
  clear E_0 E_1 E_2
  go_wp2_with fail
  refine Calls.mono (HLc.out _ HC34.out) ?_
  rintro e w38 ⟨rfl, hb38⟩
  have HS39 : Hid (StAt w38 gs s) := HS33.out.later hb38 HS33.out.lt
  have HC40 : Hid (CkAt w38 g ⟨⟨0, 0, r⟩, 0, d⟩) := HC34.out.later hb38 HC34.out.lt
  have HF41 : Hid (StAt w38 gf ⟨n + d + 1, 0, sr⟩) := HF35.out.later hb38 HF35.out.lt
  have HE42 : Hid (StAt w38 ge ⟨n + d, l, sr⟩) := HE36.out.later hb38 HE36.out.lt
  have HB43 : Hid (Below W.heap.size W w38) := HB37.out.trans (hb38.mono HB37.out.size)
  clear HS33 HC34 HF35 HE36 HB37 hb38
  obtain ⟨E_0, E_1, E_2⟩ := HE42.out.cells
  go_wp2_with fail
  refine Calls.mono (HWe.out _ HC40.out) ?_
  rintro e w44 ⟨rfl, hc44, hg44⟩
  have HS45 : Hid (StAt w44 gs s) := HS39.out.grown hg44 (by omega)
  have HC46 : Hid (CkAt w44 g ⟨⟨n + d, l, r⟩, 0, d⟩) := hc44
  have HF47 : Hid (StAt w44 gf ⟨n + d + 1, 0, sr⟩) := HF41.out.grown hg44 (by omega)
  have HE48 : Hid (StAt w44 ge ⟨n + d, l, sr⟩) := HE42.out.grown hg44 (by omega)
  have HB49 : Hid (Below W.heap.size W w44) := below_gr HB43.out hg44 HB43.out.size (by omega)
  clear HS39 HC40 HF41 HE42 HB43 hc44 hg44
  clear E_0 E_1 E_2
  go_wp2_with fail
  refine Calls.mono (HLd.out _ HC46.out) ?_
  rintro e w50 ⟨rfl, hb50⟩
  have HS51 : Hid (StAt w50 gs s) := HS45.out.later hb50 HS45.out.lt
  have HC52 : Hid (CkAt w50 g ⟨⟨n + d, l, r⟩, 0, d⟩) := HC46.out.later hb50 HC46.out.lt
  have HF53 : Hid (StAt w50 gf ⟨n + d + 1, 0, sr⟩) := HF47.out.later hb50 HF47.out.lt
  have HE54 : Hid (StAt w50 ge ⟨n + d, l, sr⟩) := HE48.out.later hb50 HE48.out.lt
  have HB55 : Hid (Below W.heap.size W w50) := HB49.out.trans (hb50.mono HB49.out.size)
  clear HS45 HC46 HF47 HE48 HB49 hb50
  have HX56 : Hid (StAt (w50.alloc (.cells #[.int .i64 0, .int .i64 0, .int .i64 0] 32)) w50.heap.size StMath.zero) := StAt.new w50 StMath.zero rfl
  have hlt_gv_S : gs < w50.heap.size := HS51.out.lt
  have hlt_gv_C : g < w50.heap.size := HC52.out.lt
  have hlt_gv_F : gf < w50.heap.size := HF53.out.lt
  have hlt_gv_E : ge < w50.heap.size := HE54.out.lt
  have hle_gv : W.heap.size ≤ w50.heap.size := HB55.out.size
  have HS57 : Hid (StAt ((w50.alloc (.cells #[.int .i64 0, .int .i64 0, .int .i64 0] 32)).setRow w50.heap.size (stL ⟨n + d, l, r⟩).toArray) gs s) := StAt.row_other (HS51.out.alloc _) _ (by omega)
  have HC58 : Hid (CkAt ((w50.alloc (.cells #[.int .i64 0, .int .i64 0, .int .i64 0] 32)).setRow w50.heap.size (stL ⟨n + d, l, r⟩).toArray) g ⟨⟨n + d, l, r⟩, 0, d⟩) := CkAt.row_other (HC52.out.alloc _) _ (by omega)
  have HF59 : Hid (StAt ((w50.alloc (.cells #[.int .i64 0, .int .i64 0, .int .i64 0] 32)).setRow w50.heap.size (stL ⟨n + d, l, r⟩).toArray) gf ⟨n + d + 1, 0, sr⟩) := StAt.row_other (HF53.out.alloc _) _ (by omega)
  have HE60 : Hid (StAt ((w50.alloc (.cells #[.int .i64 0, .int .i64 0, .int .i64 0] 32)).setRow w50.heap.size (stL ⟨n + d, l, r⟩).toArray) ge ⟨n + d, l, sr⟩) := StAt.row_other (HE54.out.alloc _) _ (by omega)
  have HB61 : Hid (Below W.heap.size W ((w50.alloc (.cells #[.int .i64 0, .int .i64 0, .int .i64 0] 32)).setRow w50.heap.size (stL ⟨n + d, l, r⟩).toArray)) := below_setRow (HB55.out.alloc HB55.out.size _) (by omega) _
  have HV62 : Hid (StAt ((w50.alloc (.cells #[.int .i64 0, .int .i64 0, .int .i64 0] 32)).setRow w50.heap.size (stL ⟨n + d, l, r⟩).toArray) w50.heap.size ⟨n + d, l, r⟩) := StAt.row HX56.out
  go_upto_region 16 with (first
    | refine wpList_store_st rfl (.tmp 13) (.tmp 90) rfl w50.heap.size StMath.zero ⟨n + d, l, r⟩ rfl rfl HX56.out ?_)
  clear HS51 HC52 HF53 HE54 HB55 HX56
  generalize (w50.alloc (.cells #[.int .i64 0, .int .i64 0, .int .i64 0] 32)).setRow w50.heap.size (stL ⟨n + d, l, r⟩).toArray = w63 at *
  generalize w50.heap.size = gv at *
  obtain ⟨E_0, E_1, E_2⟩ := HE60.out.cells
  have HNx : Hid (∀ w, CkAt w g ⟨⟨n + d, l, r⟩, 0, d⟩ → _) := fun w hc => next_any g ⟨⟨n + d, l, r⟩, 0, d⟩ n w hc HO1.out
  have HNy : Hid (∀ w, CkAt w g ⟨⟨n + d, l, r⟩, 0, d⟩ → _) := fun w hc => next_any g ⟨⟨n + d, l, r⟩, 0, d⟩ (n + 1) w hc HO1.out
  rw [HNa.out.1, HNa.out.2] at HNx
  rw [HNb.out.1, HNb.out.2] at HNy
  unfold stV StMath.zero at HNx
  unfold stV at HNy
  dsimp only at HNx HNy
  clear HNa HNb HO1
  go_wp2_with fail
  refine Calls.mono (HNx.out _ HC58.out) ?_
  rintro e w64 ⟨rfl, hc64, hg64⟩
  have HS65 : Hid (StAt w64 gs s) := HS57.out.grown hg64 (by omega)
  have HC66 : Hid (CkAt w64 g ⟨⟨n + d, l, r⟩, 0, d⟩) := hc64
  have HF67 : Hid (StAt w64 gf ⟨n + d + 1, 0, sr⟩) := HF59.out.grown hg64 (by omega)
  have HE68 : Hid (StAt w64 ge ⟨n + d, l, sr⟩) := HE60.out.grown hg64 (by omega)
  have HV69 : Hid (StAt w64 gv ⟨n + d, l, r⟩) := HV62.out.grown hg64 (by omega)
  have HB70 : Hid (Below W.heap.size W w64) := below_gr HB61.out hg64 HB61.out.size (by omega)
  clear HS57 HC58 HF59 HE60 HV62 HB61 hc64 hg64
  clear E_0 E_1 E_2
  have HX71 : Hid (StAt (w64.alloc (.cells #[.int .i64 0, .int .i64 0, .int .i64 0] 32)) w64.heap.size StMath.zero) := StAt.new w64 StMath.zero rfl
  have hlt_gp_S : gs < w64.heap.size := HS65.out.lt
  have hlt_gp_C : g < w64.heap.size := HC66.out.lt
  have hlt_gp_F : gf < w64.heap.size := HF67.out.lt
  have hlt_gp_E : ge < w64.heap.size := HE68.out.lt
  have hlt_gp_V : gv < w64.heap.size := HV69.out.lt
  have hle_gp : W.heap.size ≤ w64.heap.size := HB70.out.size
  have HS72 : Hid (StAt ((w64.alloc (.cells #[.int .i64 0, .int .i64 0, .int .i64 0] 32)).setRow w64.heap.size (stL StMath.zero).toArray) gs s) := StAt.row_other (HS65.out.alloc _) _ (by omega)
  have HC73 : Hid (CkAt ((w64.alloc (.cells #[.int .i64 0, .int .i64 0, .int .i64 0] 32)).setRow w64.heap.size (stL StMath.zero).toArray) g ⟨⟨n + d, l, r⟩, 0, d⟩) := CkAt.row_other (HC66.out.alloc _) _ (by omega)
  have HF74 : Hid (StAt ((w64.alloc (.cells #[.int .i64 0, .int .i64 0, .int .i64 0] 32)).setRow w64.heap.size (stL StMath.zero).toArray) gf ⟨n + d + 1, 0, sr⟩) := StAt.row_other (HF67.out.alloc _) _ (by omega)
  have HE75 : Hid (StAt ((w64.alloc (.cells #[.int .i64 0, .int .i64 0, .int .i64 0] 32)).setRow w64.heap.size (stL StMath.zero).toArray) ge ⟨n + d, l, sr⟩) := StAt.row_other (HE68.out.alloc _) _ (by omega)
  have HV76 : Hid (StAt ((w64.alloc (.cells #[.int .i64 0, .int .i64 0, .int .i64 0] 32)).setRow w64.heap.size (stL StMath.zero).toArray) gv ⟨n + d, l, r⟩) := StAt.row_other (HV69.out.alloc _) _ (by omega)
  have HB77 : Hid (Below W.heap.size W ((w64.alloc (.cells #[.int .i64 0, .int .i64 0, .int .i64 0] 32)).setRow w64.heap.size (stL StMath.zero).toArray)) := below_setRow (HB70.out.alloc HB70.out.size _) (by omega) _
  have HP78 : Hid (StAt ((w64.alloc (.cells #[.int .i64 0, .int .i64 0, .int .i64 0] 32)).setRow w64.heap.size (stL StMath.zero).toArray) w64.heap.size StMath.zero) := StAt.row HX71.out
  go_upto_region 19 with (first
    | refine wpList_store_st rfl (.tmp 14) (.tmp 98) rfl w64.heap.size StMath.zero StMath.zero rfl rfl HX71.out ?_)
  clear HS65 HC66 HF67 HE68 HV69 HB70 HX71
  generalize (w64.alloc (.cells #[.int .i64 0, .int .i64 0, .int .i64 0] 32)).setRow w64.heap.size (stL StMath.zero).toArray = w79 at *
  generalize w64.heap.size = gp at *
  go_wp2_with fail
  refine Calls.mono (HNy.out _ HC73.out) ?_
  rintro e w80 ⟨rfl, hc80, hg80⟩
  have HS81 : Hid (StAt w80 gs s) := HS72.out.grown hg80 (by omega)
  have HC82 : Hid (CkAt w80 g ⟨⟨n + d + 1, 0, r⟩, 0, d⟩) := hc80
  have HF83 : Hid (StAt w80 gf ⟨n + d + 1, 0, sr⟩) := HF74.out.grown hg80 (by omega)
  have HE84 : Hid (StAt w80 ge ⟨n + d, l, sr⟩) := HE75.out.grown hg80 (by omega)
  have HV85 : Hid (StAt w80 gv ⟨n + d, l, r⟩) := HV76.out.grown hg80 (by omega)
  have HP86 : Hid (StAt w80 gp StMath.zero) := HP78.out.grown hg80 (by omega)
  have HB87 : Hid (Below W.heap.size W w80) := below_gr HB77.out hg80 HB77.out.size (by omega)
  clear HS72 HC73 HF74 HE75 HV76 HP78 HB77 hc80 hg80
  have HX88 : Hid (StAt (w80.alloc (.cells #[.int .i64 0, .int .i64 0, .int .i64 0] 32)) w80.heap.size StMath.zero) := StAt.new w80 StMath.zero rfl
  have hlt_gq_S : gs < w80.heap.size := HS81.out.lt
  have hlt_gq_C : g < w80.heap.size := HC82.out.lt
  have hlt_gq_F : gf < w80.heap.size := HF83.out.lt
  have hlt_gq_E : ge < w80.heap.size := HE84.out.lt
  have hlt_gq_V : gv < w80.heap.size := HV85.out.lt
  have hlt_gq_P : gp < w80.heap.size := HP86.out.lt
  have hle_gq : W.heap.size ≤ w80.heap.size := HB87.out.size
  have HS89 : Hid (StAt ((w80.alloc (.cells #[.int .i64 0, .int .i64 0, .int .i64 0] 32)).setRow w80.heap.size (stL ⟨n + d + 1, 0, r⟩).toArray) gs s) := StAt.row_other (HS81.out.alloc _) _ (by omega)
  have HC90 : Hid (CkAt ((w80.alloc (.cells #[.int .i64 0, .int .i64 0, .int .i64 0] 32)).setRow w80.heap.size (stL ⟨n + d + 1, 0, r⟩).toArray) g ⟨⟨n + d + 1, 0, r⟩, 0, d⟩) := CkAt.row_other (HC82.out.alloc _) _ (by omega)
  have HF91 : Hid (StAt ((w80.alloc (.cells #[.int .i64 0, .int .i64 0, .int .i64 0] 32)).setRow w80.heap.size (stL ⟨n + d + 1, 0, r⟩).toArray) gf ⟨n + d + 1, 0, sr⟩) := StAt.row_other (HF83.out.alloc _) _ (by omega)
  have HE92 : Hid (StAt ((w80.alloc (.cells #[.int .i64 0, .int .i64 0, .int .i64 0] 32)).setRow w80.heap.size (stL ⟨n + d + 1, 0, r⟩).toArray) ge ⟨n + d, l, sr⟩) := StAt.row_other (HE84.out.alloc _) _ (by omega)
  have HV93 : Hid (StAt ((w80.alloc (.cells #[.int .i64 0, .int .i64 0, .int .i64 0] 32)).setRow w80.heap.size (stL ⟨n + d + 1, 0, r⟩).toArray) gv ⟨n + d, l, r⟩) := StAt.row_other (HV85.out.alloc _) _ (by omega)
  have HP94 : Hid (StAt ((w80.alloc (.cells #[.int .i64 0, .int .i64 0, .int .i64 0] 32)).setRow w80.heap.size (stL ⟨n + d + 1, 0, r⟩).toArray) gp StMath.zero) := StAt.row_other (HP86.out.alloc _) _ (by omega)
  have HB95 : Hid (Below W.heap.size W ((w80.alloc (.cells #[.int .i64 0, .int .i64 0, .int .i64 0] 32)).setRow w80.heap.size (stL ⟨n + d + 1, 0, r⟩).toArray)) := below_setRow (HB87.out.alloc HB87.out.size _) (by omega) _
  have HQ96 : Hid (StAt ((w80.alloc (.cells #[.int .i64 0, .int .i64 0, .int .i64 0] 32)).setRow w80.heap.size (stL ⟨n + d + 1, 0, r⟩).toArray) w80.heap.size ⟨n + d + 1, 0, r⟩) := StAt.row HX88.out
  go_upto_region 20 with (first
    | refine wpList_store_st rfl (.tmp 16) (.tmp 105) rfl w80.heap.size StMath.zero ⟨n + d + 1, 0, r⟩ rfl rfl HX88.out ?_)
  clear HS81 HC82 HF83 HE84 HV85 HP86 HB87 HX88
  generalize (w80.alloc (.cells #[.int .i64 0, .int .i64 0, .int .i64 0] 32)).setRow w80.heap.size (stL ⟨n + d + 1, 0, r⟩).toArray = w97 at *
  generalize w80.heap.size = gq at *
  have HM : Hid (∀ g w, SRow w (some ⟨g, 0, none⟩) [⟨n + d + 1, 0, r⟩, ⟨n + d, l, r⟩] → Calls Try.prog 14 #[.slice (some ⟨g, 0, none⟩) 2 2] w fun e w' => e = .returned (.agg #[.int .i64 (n + d + 1), .int .i64 0, .int .i64 r]) ∧ Below w.heap.size w w') := fun g w hr => by
    have := refMax_any (some ⟨g, 0, none⟩) [⟨n + d + 1, 0, r⟩, ⟨n + d, l, r⟩] 2 w hr (Nat.le_refl _) (by decide)
    rw [HMx.out] at this
    exact this
  clear HMx HLd HLc HCe HWe HWf HNx HNy
  clear HS89
  clear HF91
  clear HE92
  clear HC90
  have HV98 : Hid (StAt w97.drew gv ⟨n + d, l, r⟩) := HV93.out.drew
  have HP99 : Hid (StAt w97.drew gp StMath.zero) := HP94.out.drew
  have HQ100 : Hid (StAt w97.drew gq ⟨n + d + 1, 0, r⟩) := HQ96.out.drew
  have HB101 : Hid (Below W.heap.size W w97.drew) := HB95.out.drew
  clear HV93 HP94 HQ96 HB95
  have hdr : w97.drew = w97.drew := rfl
  clear hdr
  obtain ⟨P_0, P_1, P_2⟩ := HP99.out.cells
  obtain ⟨Q_0, Q_1, Q_2⟩ := HQ100.out.cells
  obtain ⟨V_0, V_1, V_2⟩ := HV98.out.cells
  dsimp only [StMath.zero] at P_0 P_1 P_2 Q_0 Q_1 Q_2 V_0 V_1 V_2
  refine wp_region_held_drew (S := fun w' => w'.cell? ⟨gp, 0, none⟩ = some (.int .i64 0) ∧ w'.cell? ⟨gp, 1, none⟩ = some (.int .i64 0) ∧ w'.cell? ⟨gp, 2, none⟩ = some (.int .i64 0) ∧ w'.cell? ⟨gq, 0, none⟩ = some (.int .i64 (n + d + 1)) ∧ w'.cell? ⟨gq, 1, none⟩ = some (.int .i64 0) ∧ w'.cell? ⟨gq, 2, none⟩ = some (.int .i64 r) ∧ w'.cell? ⟨gv, 0, none⟩ = some (.int .i64 (n + d)) ∧ w'.cell? ⟨gv, 1, none⟩ = some (.int .i64 l) ∧ w'.cell? ⟨gv, 2, none⟩ = some (.int .i64 r)) (by kernel_rfl) ⟨P_0, P_1, P_2, Q_0, Q_1, Q_2, V_0, V_1, V_2⟩ (fun hS => ?_)
  clear P_0 P_1 P_2 Q_0 Q_1 Q_2 V_0 V_1 V_2
  refine wpAnyH_take (i := 0) (v := ?_) rfl (by kernel_rfl) (by kernel_rfl) (by kernel_rfl) (fun _ _ _ h => h) (Or.inl ⟨by rfl, ?_⟩) hS ?_
  rotate_left 1
  · intro w hSw; (try dsimp only at hSw); go_simp <;> with_reducible rfl
  simp only [List.getElem_toArray, List.getElem_cons_zero, List.getElem_cons_succ, Act.put, List.setIfInBounds_toArray, List.set_cons_zero, List.set_cons_succ]
  refine wpAnyH_take (i := 1) (v := ?_) rfl (by kernel_rfl) (by kernel_rfl) (by kernel_rfl) (fun _ _ _ h => h) (Or.inl ⟨by rfl, ?_⟩) hS ?_
  rotate_left 1
  · intro w hSw; (try dsimp only at hSw); go_simp <;> with_reducible rfl
  simp only [List.getElem_toArray, List.getElem_cons_zero, List.getElem_cons_succ, Act.put, List.setIfInBounds_toArray, List.set_cons_zero, List.set_cons_succ]
  refine wpAnyH_take (i := 2) (v := ?_) rfl (by kernel_rfl) (by kernel_rfl) (by kernel_rfl) (fun _ _ _ h => h) (Or.inl ⟨by rfl, ?_⟩) hS ?_
  rotate_left 1
  · intro w hSw; (try dsimp only at hSw); go_simp <;> with_reducible rfl
  simp only [List.getElem_toArray, List.getElem_cons_zero, List.getElem_cons_succ, Act.put, List.setIfInBounds_toArray, List.set_cons_zero, List.set_cons_succ]
  refine wpAnyH_take (i := 3) (v := ?_) rfl (by kernel_rfl) (by kernel_rfl) (by kernel_rfl) (fun _ _ _ h => h) (Or.inl ⟨by rfl, ?_⟩) hS ?_
  rotate_left 1
  · intro w hSw; (try dsimp only at hSw); go_simp <;> with_reducible rfl
  simp only [List.getElem_toArray, List.getElem_cons_zero, List.getElem_cons_succ, Act.put, List.setIfInBounds_toArray, List.set_cons_zero, List.set_cons_succ]
  refine wpAnyH_take (i := 4) (v := ?_) rfl (by kernel_rfl) (by kernel_rfl) (by kernel_rfl) (fun _ _ _ h => h) (Or.inl ⟨by rfl, ?_⟩) hS ?_
  rotate_left 1
  · intro w hSw; (try dsimp only at hSw); go_simp <;> with_reducible rfl
  simp only [List.getElem_toArray, List.getElem_cons_zero, List.getElem_cons_succ, Act.put, List.setIfInBounds_toArray, List.set_cons_zero, List.set_cons_succ]
  refine wpAnyH_take (i := 5) (v := ?_) rfl (by kernel_rfl) (by kernel_rfl) (by kernel_rfl) (fun _ _ _ h => h) (Or.inl ⟨by rfl, ?_⟩) hS ?_
  rotate_left 1
  · intro w hSw; (try dsimp only at hSw); go_simp <;> with_reducible rfl
  simp only [List.getElem_toArray, List.getElem_cons_zero, List.getElem_cons_succ, Act.put, List.setIfInBounds_toArray, List.set_cons_zero, List.set_cons_succ]
  refine wpAnyH_take (i := 6) (v := ?_) rfl (by kernel_rfl) (by kernel_rfl) (by kernel_rfl) (fun _ _ _ h => h) (Or.inl ⟨by rfl, ?_⟩) hS ?_
  rotate_left 1
  · intro w hSw; (try dsimp only at hSw); go_simp <;> with_reducible rfl
  simp only [List.getElem_toArray, List.getElem_cons_zero, List.getElem_cons_succ, Act.put, List.setIfInBounds_toArray, List.set_cons_zero, List.set_cons_succ]
  refine wpAnyH_take (i := 7) (v := ?_) rfl (by kernel_rfl) (by kernel_rfl) (by kernel_rfl) (fun _ _ _ h => h) (Or.inl ⟨by rfl, ?_⟩) hS ?_
  rotate_left 1
  · intro w hSw; (try dsimp only at hSw); go_simp <;> with_reducible rfl
  simp only [List.getElem_toArray, List.getElem_cons_zero, List.getElem_cons_succ, Act.put, List.setIfInBounds_toArray, List.set_cons_zero, List.set_cons_succ]
  refine wpAnyH_take (i := 8) (v := ?_) rfl (by kernel_rfl) (by kernel_rfl) (by kernel_rfl) (fun _ _ _ h => h) (Or.inl ⟨by rfl, ?_⟩) hS ?_
  rotate_left 1
  · intro w hSw; (try dsimp only at hSw); go_simp <;> with_reducible rfl
  simp only [List.getElem_toArray, List.getElem_cons_zero, List.getElem_cons_succ, Act.put, List.setIfInBounds_toArray, List.set_cons_zero, List.set_cons_succ]
  refine wpAnyH_take (i := 9) (v := ?_) rfl (by kernel_rfl) (by kernel_rfl) (by kernel_rfl) (fun _ _ _ h => h) (Or.inl ⟨by rfl, ?_⟩) hS ?_
  rotate_left 1
  · intro w hSw; (try dsimp only at hSw); go_simp <;> with_reducible rfl
  simp only [List.getElem_toArray, List.getElem_cons_zero, List.getElem_cons_succ, Act.put, List.setIfInBounds_toArray, List.set_cons_zero, List.set_cons_succ]
  refine wpAnyH_take (i := 10) (v := ?_) rfl (by kernel_rfl) (by kernel_rfl) (by kernel_rfl) (fun _ _ _ h => h) (Or.inl ⟨by rfl, ?_⟩) hS ?_
  rotate_left 1
  · intro w hSw; (try dsimp only at hSw); go_simp <;> with_reducible rfl
  simp only [List.getElem_toArray, List.getElem_cons_zero, List.getElem_cons_succ, Act.put, List.setIfInBounds_toArray, List.set_cons_zero, List.set_cons_succ]
  refine wpAnyH_take (i := 11) (v := ?_) rfl (by kernel_rfl) (by kernel_rfl) (by kernel_rfl) (fun _ _ _ h => h) (Or.inl ⟨by rfl, ?_⟩) hS ?_
  rotate_left 1
  · intro w hSw; (try dsimp only at hSw); go_simp <;> with_reducible rfl
  simp only [List.getElem_toArray, List.getElem_cons_zero, List.getElem_cons_succ, Act.put, List.setIfInBounds_toArray, List.set_cons_zero, List.set_cons_succ]
  refine wpAnyH_take (i := 12) (v := ?_) rfl (by kernel_rfl) (by kernel_rfl) (by kernel_rfl) (fun _ _ _ h => h) (Or.inl ⟨by rfl, ?_⟩) hS ?_
  rotate_left 1
  · intro w hSw; (try dsimp only at hSw); go_simp <;> with_reducible rfl
  simp only [List.getElem_toArray, List.getElem_cons_zero, List.getElem_cons_succ, Act.put, List.setIfInBounds_toArray, List.set_cons_zero, List.set_cons_succ]
  refine wpAnyH_take (i := 13) (v := ?_) rfl (by kernel_rfl) (by kernel_rfl) (by kernel_rfl) (fun _ _ _ h => h) (Or.inl ⟨by rfl, ?_⟩) hS ?_
  rotate_left 1
  · intro w hSw; (try dsimp only at hSw); go_simp <;> with_reducible rfl
  simp only [List.getElem_toArray, List.getElem_cons_zero, List.getElem_cons_succ, Act.put, List.setIfInBounds_toArray, List.set_cons_zero, List.set_cons_succ]
  refine wpAnyH_take (i := 14) (v := ?_) rfl (by kernel_rfl) (by kernel_rfl) (by kernel_rfl) (fun _ _ _ h => h) (Or.inl ⟨by rfl, ?_⟩) hS ?_
  rotate_left 1
  · intro w hSw; (try dsimp only at hSw); go_simp <;> with_reducible rfl
  simp only [List.getElem_toArray, List.getElem_cons_zero, List.getElem_cons_succ, Act.put, List.setIfInBounds_toArray, List.set_cons_zero, List.set_cons_succ]
  refine wpAnyH_ready (rs := [15]) (by kernel_rfl) (by simp) ?_
  refine AllReadyH.cons rfl (fun K hK => ?_) AllReadyH.nil
  go_simp
  have HR : Hid (SRow (w97.drew.alloc (.cells #[.int .i64 (n + d + 1), .int .i64 0, .int .i64 r, .int .i64 (n + d), .int .i64 l, .int .i64 r] 32)) (some ⟨w97.drew.heap.size, 0, none⟩) [⟨n + d + 1, 0, r⟩, ⟨n + d, l, r⟩]) := lit2_srow w97.drew ⟨n + d + 1, 0, r⟩ ⟨n + d, l, r⟩ rfl
  have HV102 : Hid (StAt (w97.drew.alloc (.cells #[.int .i64 (n + d + 1), .int .i64 0, .int .i64 r, .int .i64 (n + d), .int .i64 l, .int .i64 r] 32)) gv ⟨n + d, l, r⟩) := HV98.out.alloc _
  have HP103 : Hid (StAt (w97.drew.alloc (.cells #[.int .i64 (n + d + 1), .int .i64 0, .int .i64 r, .int .i64 (n + d), .int .i64 l, .int .i64 r] 32)) gp StMath.zero) := HP99.out.alloc _
  have HQ104 : Hid (StAt (w97.drew.alloc (.cells #[.int .i64 (n + d + 1), .int .i64 0, .int .i64 r, .int .i64 (n + d), .int .i64 l, .int .i64 r] 32)) gq ⟨n + d + 1, 0, r⟩) := HQ100.out.alloc _
  have HB105 : Hid (Below W.heap.size W (w97.drew.alloc (.cells #[.int .i64 (n + d + 1), .int .i64 0, .int .i64 r, .int .i64 (n + d), .int .i64 l, .int .i64 r] 32))) := HB101.out.alloc HB101.out.size _
  clear HV98 HP99 HQ100 HB101
  refine hK.out _ _ ⟨HP103.out.cells.1, HP103.out.cells.2.1, HP103.out.cells.2.2, HQ104.out.cells.1, HQ104.out.cells.2.1, HQ104.out.cells.2.2, HV102.out.cells.1, HV102.out.cells.2.1, HV102.out.cells.2.2⟩ (fun hS => ?_)
  clear hK K
  refine wpAnyH_ready (rs := [16]) (by kernel_rfl) (by simp) ?_
  refine AllReadyH.cons rfl (fun K hK => ?_) AllReadyH.nil
  go_simp
  refine Calls.mono (HM.out _ _ HR.out) ?_
  rintro e v3 ⟨rfl, hb3⟩
  have HV106 : Hid (StAt v3 gv ⟨n + d, l, r⟩) := HV102.out.later hb3 HV102.out.lt
  have HP107 : Hid (StAt v3 gp StMath.zero) := HP103.out.later hb3 HP103.out.lt
  have HQ108 : Hid (StAt v3 gq ⟨n + d + 1, 0, r⟩) := HQ104.out.later hb3 HQ104.out.lt
  have HB109 : Hid (Below W.heap.size W v3) := HB105.out.trans (hb3.mono HB105.out.size)
  clear HV102 HP103 HQ104 HB105 hb3 HR
  refine hK.out _ _ ⟨HP107.out.cells.1, HP107.out.cells.2.1, HP107.out.cells.2.2, HQ108.out.cells.1, HQ108.out.cells.2.1, HQ108.out.cells.2.2, HV106.out.cells.1, HV106.out.cells.2.1, HV106.out.cells.2.2⟩ (fun hS => ?_)
  clear hK K
  refine wpAnyH_take (i := 17) (v := ?_) rfl (by kernel_rfl) (by kernel_rfl) (by kernel_rfl) (fun _ _ _ h => h) (Or.inl ⟨by rfl, ?_⟩) hS ?_
  rotate_left 1
  · intro w hSw; (try dsimp only at hSw); go_simp <;> with_reducible rfl
  simp only [List.getElem_toArray, List.getElem_cons_zero, List.getElem_cons_succ, Act.put, List.setIfInBounds_toArray, List.set_cons_zero, List.set_cons_succ]
  refine wpAnyH_take (i := 18) (v := ?_) rfl (by kernel_rfl) (by kernel_rfl) (by kernel_rfl) (fun _ _ _ h => h) (Or.inl ⟨by rfl, ?_⟩) hS ?_
  rotate_left 1
  · intro w hSw; (try dsimp only at hSw); go_simp <;> with_reducible rfl
  simp only [List.getElem_toArray, List.getElem_cons_zero, List.getElem_cons_succ, Act.put, List.setIfInBounds_toArray, List.set_cons_zero, List.set_cons_succ]
  refine wpAnyH_take (i := 19) (v := ?_) rfl (by kernel_rfl) (by kernel_rfl) (by kernel_rfl) (fun _ _ _ h => h) (Or.inl ⟨by rfl, ?_⟩) hS ?_
  rotate_left 1
  · intro w hSw; (try dsimp only at hSw); go_simp <;> with_reducible rfl
  simp only [List.getElem_toArray, List.getElem_cons_zero, List.getElem_cons_succ, Act.put, List.setIfInBounds_toArray, List.set_cons_zero, List.set_cons_succ]
  refine wpAnyH_take (i := 20) (v := ?_) rfl (by kernel_rfl) (by kernel_rfl) (by kernel_rfl) (fun _ _ _ h => h) (Or.inl ⟨by rfl, ?_⟩) hS ?_
  rotate_left 1
  · intro w hSw; (try dsimp only at hSw); go_simp <;> with_reducible rfl
  simp only [List.getElem_toArray, List.getElem_cons_zero, List.getElem_cons_succ, Act.put, List.setIfInBounds_toArray, List.set_cons_zero, List.set_cons_succ]
  refine wpAnyH_take (i := 21) (v := ?_) rfl (by kernel_rfl) (by kernel_rfl) (by kernel_rfl) (fun _ _ _ h => h) (Or.inl ⟨by rfl, ?_⟩) hS ?_
  rotate_left 1
  · intro w hSw; (try dsimp only at hSw); go_simp <;> with_reducible rfl
  simp only [List.getElem_toArray, List.getElem_cons_zero, List.getElem_cons_succ, Act.put, List.setIfInBounds_toArray, List.set_cons_zero, List.set_cons_succ]
  refine wpAnyH_take (i := 22) (v := ?_) rfl (by kernel_rfl) (by kernel_rfl) (by kernel_rfl) (fun _ _ _ h => h) (Or.inl ⟨by rfl, ?_⟩) hS ?_
  rotate_left 1
  · intro w hSw; (try dsimp only at hSw); go_simp <;> with_reducible rfl
  simp only [List.getElem_toArray, List.getElem_cons_zero, List.getElem_cons_succ, Act.put, List.setIfInBounds_toArray, List.set_cons_zero, List.set_cons_succ]
  refine wpAnyH_take (i := 23) (v := ?_) rfl (by kernel_rfl) (by kernel_rfl) (by kernel_rfl) (fun _ _ _ h => h) (Or.inl ⟨by rfl, ?_⟩) hS ?_
  rotate_left 1
  · intro w hSw; (try dsimp only at hSw); go_simp <;> with_reducible rfl
  simp only [List.getElem_toArray, List.getElem_cons_zero, List.getElem_cons_succ, Act.put, List.setIfInBounds_toArray, List.set_cons_zero, List.set_cons_succ]
  refine wpAnyH_take (i := 24) (v := ?_) rfl (by kernel_rfl) (by kernel_rfl) (by kernel_rfl) (fun _ _ _ h => h) (Or.inl ⟨by rfl, ?_⟩) hS ?_
  rotate_left 1
  · intro w hSw; (try dsimp only at hSw); go_simp <;> with_reducible rfl
  simp only [List.getElem_toArray, List.getElem_cons_zero, List.getElem_cons_succ, Act.put, List.setIfInBounds_toArray, List.set_cons_zero, List.set_cons_succ]
  refine wpAnyH_take (i := 25) (v := ?_) rfl (by kernel_rfl) (by kernel_rfl) (by kernel_rfl) (fun _ _ _ h => h) (Or.inl ⟨by rfl, ?_⟩) hS ?_
  rotate_left 1
  · intro w hSw; (try dsimp only at hSw); go_simp <;> with_reducible rfl
  simp only [List.getElem_toArray, List.getElem_cons_zero, List.getElem_cons_succ, Act.put, List.setIfInBounds_toArray, List.set_cons_zero, List.set_cons_succ]
  refine wpAnyH_take (i := 26) (v := ?_) rfl (by kernel_rfl) (by kernel_rfl) (by kernel_rfl) (fun _ _ _ h => h) (Or.inl ⟨by rfl, ?_⟩) hS ?_
  rotate_left 1
  · intro w hSw; (try dsimp only at hSw); go_simp <;> with_reducible rfl
  simp only [List.getElem_toArray, List.getElem_cons_zero, List.getElem_cons_succ, Act.put, List.setIfInBounds_toArray, List.set_cons_zero, List.set_cons_succ]
  refine wpAnyH_take (i := 27) (v := ?_) rfl (by kernel_rfl) (by kernel_rfl) (by kernel_rfl) (fun _ _ _ h => h) (Or.inl ⟨by rfl, ?_⟩) hS ?_
  rotate_left 1
  · intro w hSw; (try dsimp only at hSw); go_simp <;> with_reducible rfl
  simp only [List.getElem_toArray, List.getElem_cons_zero, List.getElem_cons_succ, Act.put, List.setIfInBounds_toArray, List.set_cons_zero, List.set_cons_succ]
  refine wpAnyH_take (i := 28) (v := ?_) rfl (by kernel_rfl) (by kernel_rfl) (by kernel_rfl) (fun _ _ _ h => h) (Or.inl ⟨by rfl, ?_⟩) hS ?_
  rotate_left 1
  · intro w hSw; (try dsimp only at hSw); go_simp <;> with_reducible rfl
  simp only [List.getElem_toArray, List.getElem_cons_zero, List.getElem_cons_succ, Act.put, List.setIfInBounds_toArray, List.set_cons_zero, List.set_cons_succ]
  refine wpAnyH_done (by kernel_rfl) ?_ _
  go_wp2
  go_ret
  exact ⟨rfl, HB109.out⟩

theorem hlcDrift_walk (dr nw : Int) (s : St) (k : Int) (W : World) (wd : (Lit.int .i64 dr).wf = true) (wn : (Lit.int .i64 nw).wf = true) (hf : StMath.Fit s) (wk : (Lit.int .u8 k).wf = true) :
    Calls Try.prog 5 #[.int .i64 dr, .int .i64 nw, stV s, .int .u8 k] W fun e w' => e = .returned (.bool true) ∧ Below W.heap.size W w' := by
  have hkb := bounds_u8 wk
  by_cases hz : nw % 16777216 + dr % 65536 = 0
  · exact hlcDriftA dr nw s k W wk _ _ _ _ _ (and16 _) (and24 _) (and63i _) (and16 _) rfl (by omega) (by omega) (by omega) (by omega) (by omega) (by omega) (by omega) (by omega) (by omega) (by omega) hz
  · exact hlcDriftB dr nw s k W wk _ _ _ _ _ (and16 _) (and24 _) (and63i _) (and16 _) rfl (by omega) (by omega) (by omega) (by omega) (by omega) (by omega) (by omega) (by omega) (by omega) (by omega) hz
end Go.Proofs.Ytecijlgkadlmnaa
