/-
  Walks of newsreelref1's Clock: Next, Check, Witness, Floor.
-/
import Derived.Test.YtecijlgkadlmnaaFnRefHlcA
namespace Go.Proofs.Ytecijlgkadlmnaa
open Go.RowKit NumMath
open StMath (St)
open HlcMath (Ck)
set_option maxRecDepth 100000
set_option linter.unusedVariables false
set_option linter.unusedSimpArgs false

set_option maxRecDepth 100000 in
set_option maxHeartbeats 8000000 in
theorem rnext_any (g : Nat) (c : Ck) (now : Int) (w : World) (hc : RkAt w g c) (ho : HlcMath.Ok c) :
    Calls Try.prog 22 #[.pointer (some ⟨g, 0, none⟩), .int .i64 now] w fun e w' => e = .returned (.tuple #[stV (HlcMath.peek c now).1, .int .i64 (HlcMath.peek c now).2]) ∧ RkAt w' g (HlcMath.next c now) ∧ w.grownBy w' (some g) := by
  have HA0 : Hid (StAt (w.alloc (.cells #[.int .i64 0, .int .i64 0, .int .i64 0] 32)) w.heap.size StMath.zero) := StAt.new w StMath.zero rfl
  have HB0 : Hid (Below w.heap.size w (w.alloc (.cells #[.int .i64 0, .int .i64 0, .int .i64 0] 32))) := (Below.refl _ _).alloc (Nat.le_refl _) _
  have HC0 : Hid (RkAt (w.alloc (.cells #[.int .i64 0, .int .i64 0, .int .i64 0] 32)) g c) := hc.alloc _
  have hg : g < w.heap.size := hc.lt
  have HP : Hid (∀ w, RkAt w g c → _) := fun w hc => rpeek_any g c now w hc ho
  clear hc ho
  obtain ⟨s, e, hpk⟩ : ∃ s e, HlcMath.peek c now = (s, e) := ⟨_, _, rfl⟩
  have hcs := next_cases c now s e hpk
  rw [hpk] at HP ⊢
  clear hpk
  unfold stV at HP
  dsimp only at HP ⊢
  go_enter Try.func22, Try.ntmps22
  go_wp2_with fail
  refine Calls.mono (HP.out _ HC0.out) ?_
  rintro e w2 ⟨rfl, hb2⟩
  have HA2 : Hid (StAt w2 w.heap.size StMath.zero) := HA0.out.later hb2 HA0.out.lt
  have HC2 : Hid (RkAt w2 g c) := HC0.out.later hb2 HC0.out.lt
  have HB2 : Hid (Below w.heap.size w w2) := HB0.out.trans (hb2.mono HB0.out.size)
  have hs2 : w.heap.size < w2.heap.size := HA2.out.lt
  have HX2 : Hid (StAt (w2.alloc (.cells #[.int .i64 0, .int .i64 0, .int .i64 0] 32)) w2.heap.size StMath.zero) := StAt.new w2 StMath.zero rfl
  have HX3 : Hid (StAt ((w2.alloc (.cells #[.int .i64 0, .int .i64 0, .int .i64 0] 32)).setRow w2.heap.size (stL s).toArray) w2.heap.size s) := StAt.row HX2.out
  have HA3 : Hid (StAt ((w2.alloc (.cells #[.int .i64 0, .int .i64 0, .int .i64 0] 32)).setRow w2.heap.size (stL s).toArray) w.heap.size StMath.zero) := StAt.row_other (HA2.out.alloc _) _ (by omega)
  have HC3 : Hid (RkAt ((w2.alloc (.cells #[.int .i64 0, .int .i64 0, .int .i64 0] 32)).setRow w2.heap.size (stL s).toArray) g c) := RkAt.row_other (HC2.out.alloc _) _ (by omega)
  have HB3 : Hid (Below w.heap.size w ((w2.alloc (.cells #[.int .i64 0, .int .i64 0, .int .i64 0] 32)).setRow w2.heap.size (stL s).toArray)) := below_setRow (HB2.out.alloc HB2.out.size _) (by omega) _
  clear HA0 HB0 HC0 HA2 HB2 hb2 HC2 HP
  go_upto_region 2 with (refine wpList_store_st rfl (.tmp 6) (.tmp 12) rfl w2.heap.size StMath.zero s rfl rfl HX2.out ?_)
  clear HX2
  generalize (w2.alloc (.cells #[.int .i64 0, .int .i64 0, .int .i64 0] 32)).setRow w2.heap.size (stL s).toArray = w3 at *
  have hlx : w2.heap.size < w3.heap.size := HX3.out.lt
  generalize w2.heap.size = gl at *
  generalize hga : w.heap.size = ga at HA3 hs2 hg ⊢
  rcases hcs with ⟨rfl, H⟩ | ⟨he, H⟩
  · have HC4 : Hid (RkAt (w3.setRow g (rkL { c with s := s }).toArray) g { c with s := s }) := RkAt.row HC3.out
    have HX4 : Hid (StAt (w3.setRow g (rkL { c with s := s }).toArray) gl s) := StAt.row_other HX3.out _ (by omega)
    have HA4 : Hid (StAt (w3.setRow g (rkL { c with s := s }).toArray) ga StMath.zero) := StAt.row_other HA3.out _ (by omega)
    have HG4 : Hid (w.grownBy (w3.setRow g (rkL { c with s := s }).toArray) (some g)) := gr_setRow (gr_of _ HB3.out) _
    go_wp2_with (first
      | refine wpList_load_mid rfl 32 (.tmp 6) rfl gl 0 rfl (stL s) _ (range_of_arr HX3.out.arr) Try.underlying32 rfl sizeSt ?_
      | refine wpList_store_last2 rfl (.tmp 19) (.tmp 17) rfl g c s rfl rfl HC3.out ?_
      | refine wpList_load_mid rfl 32 (.tmp 6) rfl gl 0 rfl (stL s) _ (range_of_arr HX4.out.arr) Try.underlying32 rfl sizeSt ?_
      | refine wpList_store_st rfl (.tmp 4) (.tmp 20) rfl ga StMath.zero s rfl rfl HA4.out ?_)
    refine ret_st ga s (.int .i64 0) rfl rfl rfl (StAt.row HA4.out) rfl ⟨rfl, ?_, ?_⟩
    · rw [H.out]; exact RkAt.row_other HC4.out _ (by omega)
    · exact gr_new HG4.out (by omega) _
  · go_wp2_with (first
      | refine wpList_load_mid rfl 32 (.tmp 6) rfl gl 0 rfl (stL s) _ (range_of_arr HX3.out.arr) Try.underlying32 rfl sizeSt ?_
      | refine wpList_store_st rfl (.tmp 4) (.tmp 20) rfl ga StMath.zero s rfl rfl HA3.out ?_)
    refine ret_st ga s (.int .i64 e) rfl rfl rfl (StAt.row HA3.out) rfl ⟨rfl, ?_, ?_⟩
    · rw [H.out]; exact RkAt.row_other HC3.out _ (by omega)
    · exact gr_new (gr_of _ HB3.out) (by omega) _

theorem rcheck_cases (c : Ck) (now : Int) (s : St) :
    (now < 0 ∧ Hid (HlcMath.check c now s = 24)) ∨ ((0 ≤ now ∧ 281474976710655 < now) ∧ Hid (HlcMath.check c now s = 24)) ∨ ((0 ≤ now ∧ now ≤ 281474976710655) ∧ (
    (StMath.right s = false ∧ Hid (HlcMath.check c now s = 21)) ∨ (StMath.right s = true ∧ ((c.d < s.p - now ∧ Hid (HlcMath.check c now s = 28)) ∨ (s.p - now ≤ c.d ∧ Hid (HlcMath.check c now s = 0)))))) := by
  unfold HlcMath.check Hid HlcMath.isPhys
  by_cases h0 : now < 0
  · left; exact ⟨h0, by rw [if_neg (by simp; omega)]⟩
  right
  by_cases h1 : 281474976710655 < now
  · left; exact ⟨⟨by omega, h1⟩, by rw [if_neg (by simp; omega)]⟩
  right
  refine ⟨⟨by omega, by omega⟩, ?_⟩
  rw [if_pos (by simp; omega)]
  cases h2 : StMath.right s
  · left; simp
  · right
    refine ⟨rfl, ?_⟩
    by_cases h3 : c.d < s.p - now
    · left; exact ⟨h3, by rw [if_pos rfl, if_pos (by omega)]⟩
    · right; exact ⟨by omega, by rw [if_pos rfl, if_neg (by omega)]⟩

set_option maxRecDepth 100000 in
set_option maxHeartbeats 8000000 in
theorem rcheck_any (g : Nat) (c : Ck) (now : Int) (s : St) (w : World) (hc : RkAt w g c) (ho : HlcMath.Ok c) :
    Calls Try.prog 24 #[.pointer (some ⟨g, 0, none⟩), .int .i64 now, stV s] w fun e w' => e = .returned (.int .i64 (HlcMath.check c now s)) ∧ Below w.heap.size w w' := by
  have HA0 : Hid (StAt (w.alloc (.cells #[.int .i64 s.p, .int .i64 s.l, .int .i64 s.r] 32)) w.heap.size s) := StAt.new w s rfl
  have HB0 : Hid (Below w.heap.size w (w.alloc (.cells #[.int .i64 s.p, .int .i64 s.l, .int .i64 s.r] 32))) := (Below.refl _ _).alloc (Nat.le_refl _) _
  have HC0 : Hid (RkAt (w.alloc (.cells #[.int .i64 s.p, .int .i64 s.l, .int .i64 s.r] 32)) g c) := hc.alloc _
  have HR : Hid (∀ w, _) := fun w => refRight_any s w
  clear hc ho
  unfold stV at HR ⊢
  rcases rcheck_cases c now s with ⟨h1, H⟩ | ⟨⟨h1, h2⟩, H⟩ | ⟨⟨h1, h2⟩, hcs⟩
  · clear HR
    go_enter Try.func24, Try.ntmps24
    go_wp2
    go_ret
    rw [H.out]
    exact ⟨rfl, HB0.out⟩
  · clear HR
    go_enter Try.func24, Try.ntmps24
    go_wp2
    go_ret
    rw [H.out]
    exact ⟨rfl, HB0.out⟩
  rcases hcs with ⟨h3, H⟩ | ⟨h3, hcs⟩
  · rw [h3] at HR
    clear h3
    go_enter Try.func24, Try.ntmps24
    go_wp2_with (refine wpList_load_mid rfl 32 (.tmp 5) rfl w.heap.size 0 rfl (stL s) _ (range_of_arr HA0.out.arr) Try.underlying32 rfl sizeSt ?_)
    refine Calls.mono (HR.out _) ?_
    rintro e w2 ⟨rfl, hb2⟩
    have HB2 : Hid (Below w.heap.size w w2) := HB0.out.trans (hb2.mono HB0.out.size)
    clear hb2
    go_wp2
    go_ret
    rw [H.out]
    exact ⟨rfl, HB2.out⟩
  have hr := StMath.right_iff.1 h3
  have hfw : IntKind.i64.wrap (s.p - now) = s.p - now := wrap_mid (by omega) (by omega)
  rw [h3] at HR
  clear h3 hr
  go_enter Try.func24, Try.ntmps24
  go_wp2_with (refine wpList_load_mid rfl 32 (.tmp 5) rfl w.heap.size 0 rfl (stL s) _ (range_of_arr HA0.out.arr) Try.underlying32 rfl sizeSt ?_)
  refine Calls.mono (HR.out _) ?_
  rintro e w2 ⟨rfl, hb2⟩
  have HA2 : Hid (StAt w2 w.heap.size s) := HA0.out.later hb2 HA0.out.lt
  have HC2 : Hid (RkAt w2 g c) := HC0.out.later hb2 HC0.out.lt
  have HB2 : Hid (Below w.heap.size w w2) := HB0.out.trans (hb2.mono HB0.out.size)
  clear hb2
  obtain ⟨l0, l1, l2⟩ := HA2.out.cells
  obtain ⟨k0, k1, k2, k3, k4⟩ := HC2.out.cells
  have hne : Nonempty (Grown1 w2) := ⟨⟨w2, Below.refl _ _⟩⟩
  have l0' := fun m : Grown1 w2 => grown1_cell l0 m
  have k1' := fun m : Grown1 w2 => grown1_cell k1 m
  clear l0 l1 l2 k0 k1 k2 k3 k4
  rcases hcs with ⟨h3, H⟩ | ⟨h3, H⟩
  all_goals
    go_wp2_with fail
    (try simp only [Act.put])
    refine wp_region_grow (by kernel_rfl) (by kernel_rfl) ?_
    repeat (go_big_quiet_step (fail))
    refine wpQuiet_nil ?_
    intro _ hw'
    obtain ⟨n1, hw''⟩ := hw'
    subst hw''
    have HB4 : Hid (Below w.heap.size w n1.w) := HB2.out.trans (n1.below.mono HB2.out.size)
    clear HA2 HC2 HB2 l0' k1'
    generalize n1.w = w4 at *
    go_wp2
    go_ret
    rw [H.out]
    exact ⟨rfl, HB4.out⟩
end Go.Proofs.Ytecijlgkadlmnaa
