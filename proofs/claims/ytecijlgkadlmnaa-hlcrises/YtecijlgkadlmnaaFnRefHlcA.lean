/-
  Walks of newsreelref1's Clock: Peek and Next.
-/
import Derived.Test.YtecijlgkadlmnaaFnHlcE
namespace Go.Proofs.Ytecijlgkadlmnaa
open Go.RowKit NumMath
open StMath (St)
open HlcMath (Ck)
set_option maxRecDepth 100000
set_option linter.unusedVariables false
set_option linter.unusedSimpArgs false

theorem wrap_mid {x : Int} (h0 : -1125899906842623 ≤ x) (h1 : x ≤ 1125899906842623) : IntKind.i64.wrap x = x := by
  rw [IntKind.wrap_i64]; omega
theorem rk_part {w : World} {g : Nat} {c : Ck} (h : RkAt w g c) : w.rangeAt g 2 (stL c.s) := h.range

/-- The reference's Peek: not phys; end; too far; fine. -/
theorem rpeek_cases (c : Ck) (now : Int) (ho : HlcMath.Ok c) :
    (now < 0 ∧ Hid (HlcMath.peek c now = (StMath.zero, 24))) ∨ ((0 ≤ now ∧ 281474976710655 < now) ∧ Hid (HlcMath.peek c now = (StMath.zero, 24))) ∨
    ((0 ≤ now ∧ now ≤ 281474976710655) ∧ (
      (c.s.p < now ∧ Hid (HlcMath.peek c now = (⟨now, 0, c.s.r⟩, 0))) ∨
      ((now ≤ c.s.p ∧ c.s.l < c.m) ∧ ((c.d < c.s.p - now ∧ Hid (HlcMath.peek c now = (StMath.zero, 28))) ∨ (c.s.p - now ≤ c.d ∧ Hid (HlcMath.peek c now = (⟨c.s.p, c.s.l + 1, c.s.r⟩, 0))))) ∨
      ((now ≤ c.s.p ∧ c.m ≤ c.s.l ∧ c.s.p < 281474976710655) ∧ ((c.d < c.s.p + 1 - now ∧ Hid (HlcMath.peek c now = (StMath.zero, 28))) ∨ (c.s.p + 1 - now ≤ c.d ∧ Hid (HlcMath.peek c now = (⟨c.s.p + 1, 0, c.s.r⟩, 0))))) ∨
      ((now ≤ c.s.p ∧ c.m ≤ c.s.l ∧ 281474976710655 ≤ c.s.p) ∧ Hid (HlcMath.peek c now = (StMath.zero, 27))))) := by
  unfold Hid
  have hd := ho.d0
  by_cases h0 : now < 0
  · left; refine ⟨h0, ?_⟩; unfold HlcMath.peek; rw [if_neg (by rw [HlcMath.isPhys_iff]; omega)]
  right
  by_cases h1 : 281474976710655 < now
  · left; refine ⟨⟨by omega, h1⟩, ?_⟩; unfold HlcMath.peek; rw [if_neg (by rw [HlcMath.isPhys_iff]; omega)]
  right
  refine ⟨⟨by omega, by omega⟩, ?_⟩
  have hp : HlcMath.isPhys now = true := by rw [HlcMath.isPhys_iff]; omega
  rcases foll_cases c now with ⟨h2, H⟩ | ⟨⟨h2, h3⟩, H⟩ | ⟨⟨h2, h3, h4⟩, H⟩ | ⟨⟨h2, h3, h4⟩, H⟩
  · left; refine ⟨h2, ?_⟩; unfold HlcMath.peek; rw [if_pos hp, H.out]; simp only [HlcMath.lim]; rw [if_neg (by omega)]
  · right; left; refine ⟨⟨h2, h3⟩, ?_⟩
    by_cases h5 : c.d < c.s.p - now
    · left; refine ⟨h5, ?_⟩; unfold HlcMath.peek; rw [if_pos hp, H.out]; simp only [HlcMath.lim]; rw [if_pos (by omega)]
    · right; refine ⟨by omega, ?_⟩; unfold HlcMath.peek; rw [if_pos hp, H.out]; simp only [HlcMath.lim]; rw [if_neg (by omega)]
  · right; right; left; refine ⟨⟨h2, h3, h4⟩, ?_⟩
    by_cases h5 : c.d < c.s.p + 1 - now
    · left; refine ⟨h5, ?_⟩; unfold HlcMath.peek; rw [if_pos hp, H.out]; simp only [HlcMath.lim]; rw [if_pos (by omega)]
    · right; refine ⟨by omega, ?_⟩; unfold HlcMath.peek; rw [if_pos hp, H.out]; simp only [HlcMath.lim]; rw [if_neg (by omega)]
  · right; right; right; refine ⟨⟨h2, h3, h4⟩, ?_⟩; unfold HlcMath.peek; rw [if_pos hp, H.out]

/-- The end of the reference's Peek: its own stamp in block gl, the result in block ga. -/
theorem rpk_sub {x y d : Int} (h : x - y ≤ d) : ¬ d < x - y := by omega

set_option maxRecDepth 100000 in
set_option maxHeartbeats 8000000 in
theorem rpeek_any (g : Nat) (c : Ck) (now : Int) (w : World) (hc : RkAt w g c) (ho : HlcMath.Ok c) :
    Calls Try.prog 23 #[.pointer (some ⟨g, 0, none⟩), .int .i64 now] w fun e w' => e = .returned (.tuple #[stV (HlcMath.peek c now).1, .int .i64 (HlcMath.peek c now).2]) ∧ Below w.heap.size w w' := by
  have HA0 : Hid (StAt (w.alloc (.cells #[.int .i64 0, .int .i64 0, .int .i64 0] 32)) w.heap.size StMath.zero) := StAt.new w StMath.zero rfl
  have HB0 : Hid (Below w.heap.size w (w.alloc (.cells #[.int .i64 0, .int .i64 0, .int .i64 0] 32))) := (Below.refl _ _).alloc (Nat.le_refl _) _
  have HC0 : Hid (RkAt (w.alloc (.cells #[.int .i64 0, .int .i64 0, .int .i64 0] 32)) g c) := hc.alloc _
  have hg : g < w.heap.size := hc.lt
  have hp0 := ho.p0
  have hp1 := ho.p1
  have hl0 := ho.l0
  have hl1 := ho.l1
  have hw1 : IntKind.i64.wrap (c.s.l + 1) = c.s.l + 1 := wrap_small (by omega) (by omega)
  have hw2 : IntKind.i64.wrap (c.s.p + 1) = c.s.p + 1 := wrap_small (by omega) (by omega)
  have hd0 := ho.d0
  have hcs := rpeek_cases c now ho
  clear hc ho
  rcases hcs with ⟨h1, H⟩ | ⟨⟨h1, h2⟩, H⟩ | ⟨⟨n0, n1⟩, hcs⟩
  · go_enter Try.func23, Try.ntmps23
    go_wp2_with (refine wpList_store_st rfl (.tmp 4) (.tmp 13) rfl w.heap.size StMath.zero StMath.zero rfl rfl HA0.out ?_)
    exact ret_st w.heap.size StMath.zero (.int .i64 24) rfl rfl rfl (StAt.row HA0.out) rfl ⟨by rw [H.out], below_setRow HB0.out (Nat.le_refl _) _⟩
  · go_enter Try.func23, Try.ntmps23
    go_wp2_with (refine wpList_store_st rfl (.tmp 4) (.tmp 13) rfl w.heap.size StMath.zero StMath.zero rfl rfl HA0.out ?_)
    exact ret_st w.heap.size StMath.zero (.int .i64 24) rfl rfl rfl (StAt.row HA0.out) rfl ⟨by rw [H.out], below_setRow HB0.out (Nat.le_refl _) _⟩
  go_enter Try.func23, Try.ntmps23
  go_upto_region 3 with (fail)
  generalize w.alloc (.cells #[.int .i64 0, .int .i64 0, .int .i64 0] 32) = w0 at *
  have hs0 : w.heap.size < w0.heap.size := HA0.out.lt
  have HL0 : Hid (StAt (w0.alloc (.cells #[.int .i64 0, .int .i64 0, .int .i64 0] 32)) w0.heap.size StMath.zero) := StAt.new w0 StMath.zero rfl
  have HL2 : Hid (StAt ((w0.alloc (.cells #[.int .i64 0, .int .i64 0, .int .i64 0] 32)).setRow w0.heap.size (stL c.s).toArray) w0.heap.size c.s) := StAt.row HL0.out
  have HA2 : Hid (StAt ((w0.alloc (.cells #[.int .i64 0, .int .i64 0, .int .i64 0] 32)).setRow w0.heap.size (stL c.s).toArray) w.heap.size StMath.zero) := StAt.row_other (HA0.out.alloc _) _ (by omega)
  have HC2 : Hid (RkAt ((w0.alloc (.cells #[.int .i64 0, .int .i64 0, .int .i64 0] 32)).setRow w0.heap.size (stL c.s).toArray) g c) := RkAt.row_other (HC0.out.alloc _) _ (by omega)
  have HB2 : Hid (Below w.heap.size w ((w0.alloc (.cells #[.int .i64 0, .int .i64 0, .int .i64 0] 32)).setRow w0.heap.size (stL c.s).toArray)) := below_setRow (HB0.out.alloc HB0.out.size _) (by omega) _
  go_upto_region 5 with (first
    | refine wpList_load_mid rfl 32 (.tmp 16) rfl g 2 rfl (stL c.s) _ HC0.out.range Try.underlying32 rfl sizeSt ?_
    | refine wpList_store_st rfl (.tmp 6) (.tmp 17) rfl w0.heap.size StMath.zero c.s rfl rfl HL0.out ?_)
  clear HL0 HC0 HA0 HB0
  generalize (w0.alloc (.cells #[.int .i64 0, .int .i64 0, .int .i64 0] 32)).setRow w0.heap.size (stL c.s).toArray = w2 at *
  generalize w0.heap.size = gl at *
  generalize hga : w.heap.size = ga at HA2 hs0 ⊢
  have hgl : g ≠ gl := by omega
  obtain ⟨l0, l1, l2⟩ := HL2.out.cells
  rcases hcs with ⟨h1, H⟩ | ⟨⟨h1, h2⟩, hcs⟩ | ⟨⟨h1, h2, h3⟩, hcs⟩ | ⟨⟨h1, h2, h3⟩, H⟩
  all_goals
    have f0 := HL2.out.frozen 0
    have f1 := HL2.out.frozen 1
  · have hfar : now - now ≤ c.d := by omega
    have hfw : IntKind.i64.wrap (now - now) = now - now := wrap_mid (by omega) (by omega)
    go_upto_region 11 with (fail)
    have HL3 : Hid (StAt ((w2.setCell ⟨gl, 0, none⟩ (.int .i64 (now))).setCell ⟨gl, 1, none⟩ (.int .i64 (0))) gl ⟨now, 0, c.s.r⟩) := ⟨(Arr.set (Arr.set HL2.out.arr 0 _) 1 _)⟩
    have HA3 : Hid (StAt ((w2.setCell ⟨gl, 0, none⟩ (.int .i64 (now))).setCell ⟨gl, 1, none⟩ (.int .i64 (0))) ga StMath.zero) := ⟨(Arr.set_other (Arr.set_other HA2.out.arr _ (by show ga ≠ gl; omega) _) _ (by show ga ≠ gl; omega) _)⟩
    have HC3 : Hid (RkAt ((w2.setCell ⟨gl, 0, none⟩ (.int .i64 (now))).setCell ⟨gl, 1, none⟩ (.int .i64 (0))) g c) := ⟨(Arr.set_other (Arr.set_other HC2.out.arr _ (by show g ≠ gl; omega) _) _ (by show g ≠ gl; omega) _)⟩
    have HB3 : Hid (Below w.heap.size w ((w2.setCell ⟨gl, 0, none⟩ (.int .i64 (now))).setCell ⟨gl, 1, none⟩ (.int .i64 (0)))) := ((HB2.out.setCell (by show w.heap.size ≤ gl; omega) _).setCell (by show w.heap.size ≤ gl; omega) _)
    clear HL2 HA2 HC2 HB2 l0 l1 l2 f0 f1
    generalize (w2.setCell ⟨gl, 0, none⟩ (.int .i64 (now))).setCell ⟨gl, 1, none⟩ (.int .i64 (0)) = w3 at *
    obtain ⟨l0, l1, l2⟩ := HL3.out.cells
    obtain ⟨k0, k1, k2, k3, k4⟩ := HC3.out.cells
    have hne : Nonempty (Grown1 w3) := ⟨⟨w3, Below.refl _ _⟩⟩
    have l0' := fun m : Grown1 w3 => grown1_cell l0 m
    have k1' := fun m : Grown1 w3 => grown1_cell k1 m
    clear l0 l1 l2 k0 k1 k2 k3 k4
    (try simp only [Act.put])
    refine wp_region_grow (by kernel_rfl) (by kernel_rfl) ?_
    repeat (go_big_quiet_step (fail))
    refine wpQuiet_nil ?_
    intro _ hw'
    obtain ⟨n1, hw''⟩ := hw'
    subst hw''
    have HL4 : Hid (StAt n1.w gl ⟨now, 0, c.s.r⟩) := HL3.out.later n1.below HL3.out.lt
    have HA4 : Hid (StAt n1.w ga StMath.zero) := HA3.out.later n1.below HA3.out.lt
    have HB4 : Hid (Below w.heap.size w n1.w) := HB3.out.trans (n1.below.mono HB3.out.size)
    clear HL3 HA3 HC3 HB3 l0' k1'
    generalize n1.w = w4 at *
    clear hne n1
    go_wp2_with (first
      | refine wpList_load_mid rfl 32 (.tmp 6) rfl gl 0 rfl (stL ⟨now, 0, c.s.r⟩) _ (range_of_arr HL4.out.arr) Try.underlying32 rfl sizeSt ?_
      | refine wpList_store_st rfl (.tmp 4) (.tmp 58) rfl ga StMath.zero ⟨now, 0, c.s.r⟩ rfl rfl HA4.out ?_)
    exact ret_st ga ⟨now, 0, c.s.r⟩ (.int .i64 0) rfl rfl rfl (StAt.row HA4.out) rfl ⟨by rw [H.out], below_setRow HB4.out (Nat.le_of_eq hga) _⟩
  · have hfw : IntKind.i64.wrap (c.s.p - now) = c.s.p - now := wrap_mid (by omega) (by omega)
    have hne : Nonempty (Grown1 w2) := ⟨⟨w2, Below.refl _ _⟩⟩
    obtain ⟨k0, _, _, _, _⟩ := HC2.out.cells
    have l1' := fun m : Grown1 w2 => grown1_cell l1 m
    have k0' := fun m : Grown1 w2 => grown1_cell k0 m
    clear k0
    go_wp2_with fail
    (try simp only [Act.put])
    refine wp_region_grow (by kernel_rfl) (by kernel_rfl) ?_
    repeat (go_big_quiet_step (fail))
    refine wpQuiet_nil ?_
    intro _ hw'
    obtain ⟨n1, hw''⟩ := hw'
    subst hw''
    have HL5 : Hid (StAt n1.w gl c.s) := HL2.out.later n1.below HL2.out.lt
    have HA5 : Hid (StAt n1.w ga StMath.zero) := HA2.out.later n1.below HA2.out.lt
    have HC5 : Hid (RkAt n1.w g c) := HC2.out.later n1.below HC2.out.lt
    have HB5 : Hid (Below w.heap.size w n1.w) := HB2.out.trans (n1.below.mono HB2.out.size)
    clear HL2 HA2 HC2 HB2 l0 l1 l2 l1' k0' f0 f1
    generalize n1.w = w2 at *
    clear hne n1
    have HL2 := HL5
    have HA2 := HA5
    have HC2 := HC5
    have HB2 := HB5
    obtain ⟨l0, l1, l2⟩ := HL2.out.cells
    have f0 := HL2.out.frozen 0
    have f1 := HL2.out.frozen 1
    clear HL5 HA5 HC5 HB5
    go_upto_region 11 with (fail)
    have HL3 : Hid (StAt (w2.setCell ⟨gl, 1, none⟩ (.int .i64 (c.s.l + 1))) gl ⟨c.s.p, c.s.l + 1, c.s.r⟩) := ⟨(Arr.set HL2.out.arr 1 _)⟩
    have HA3 : Hid (StAt (w2.setCell ⟨gl, 1, none⟩ (.int .i64 (c.s.l + 1))) ga StMath.zero) := ⟨(Arr.set_other HA2.out.arr _ (by show ga ≠ gl; omega) _)⟩
    have HC3 : Hid (RkAt (w2.setCell ⟨gl, 1, none⟩ (.int .i64 (c.s.l + 1))) g c) := ⟨(Arr.set_other HC2.out.arr _ (by show g ≠ gl; omega) _)⟩
    have HB3 : Hid (Below w.heap.size w (w2.setCell ⟨gl, 1, none⟩ (.int .i64 (c.s.l + 1)))) := (HB2.out.setCell (by show w.heap.size ≤ gl; omega) _)
    clear HL2 HA2 HC2 HB2 l0 l1 l2 f0 f1
    generalize w2.setCell ⟨gl, 1, none⟩ (.int .i64 (c.s.l + 1)) = w3 at *
    obtain ⟨l0, l1, l2⟩ := HL3.out.cells
    obtain ⟨k0, k1, k2, k3, k4⟩ := HC3.out.cells
    rcases hcs with ⟨h5, H⟩ | ⟨h5, H⟩
    · skip
      have hne : Nonempty (Grown1 w3) := ⟨⟨w3, Below.refl _ _⟩⟩
      have l0' := fun m : Grown1 w3 => grown1_cell l0 m
      have k1' := fun m : Grown1 w3 => grown1_cell k1 m
      clear l0 l1 l2 k0 k1 k2 k3 k4
      (try simp only [Act.put])
      refine wp_region_grow (by kernel_rfl) (by kernel_rfl) ?_
      repeat (go_big_quiet_step (fail))
      refine wpQuiet_nil ?_
      intro _ hw'
      obtain ⟨n1, hw''⟩ := hw'
      subst hw''
      have HL4 : Hid (StAt n1.w gl ⟨c.s.p, c.s.l + 1, c.s.r⟩) := HL3.out.later n1.below HL3.out.lt
      have HA4 : Hid (StAt n1.w ga StMath.zero) := HA3.out.later n1.below HA3.out.lt
      have HB4 : Hid (Below w.heap.size w n1.w) := HB3.out.trans (n1.below.mono HB3.out.size)
      clear HL3 HA3 HC3 HB3 l0' k1'
      generalize n1.w = w4 at *
      clear hne n1
      go_wp2_with (refine wpList_store_st rfl (.tmp 4) (.tmp 57) rfl ga StMath.zero StMath.zero rfl rfl HA4.out ?_)
      exact ret_st ga StMath.zero (.int .i64 28) rfl rfl rfl (StAt.row HA4.out) rfl ⟨by rw [H.out], below_setRow HB4.out (Nat.le_of_eq hga) _⟩
    · skip
      have hne : Nonempty (Grown1 w3) := ⟨⟨w3, Below.refl _ _⟩⟩
      have l0' := fun m : Grown1 w3 => grown1_cell l0 m
      have k1' := fun m : Grown1 w3 => grown1_cell k1 m
      clear l0 l1 l2 k0 k1 k2 k3 k4
      (try simp only [Act.put])
      refine wp_region_grow (by kernel_rfl) (by kernel_rfl) ?_
      repeat (go_big_quiet_step (fail))
      refine wpQuiet_nil ?_
      intro _ hw'
      obtain ⟨n1, hw''⟩ := hw'
      subst hw''
      have HL4 : Hid (StAt n1.w gl ⟨c.s.p, c.s.l + 1, c.s.r⟩) := HL3.out.later n1.below HL3.out.lt
      have HA4 : Hid (StAt n1.w ga StMath.zero) := HA3.out.later n1.below HA3.out.lt
      have HB4 : Hid (Below w.heap.size w n1.w) := HB3.out.trans (n1.below.mono HB3.out.size)
      clear HL3 HA3 HC3 HB3 l0' k1'
      generalize n1.w = w4 at *
      clear hne n1
      go_wp2_with (first
        | refine wpList_load_mid rfl 32 (.tmp 6) rfl gl 0 rfl (stL ⟨c.s.p, c.s.l + 1, c.s.r⟩) _ (range_of_arr HL4.out.arr) Try.underlying32 rfl sizeSt ?_
        | refine wpList_store_st rfl (.tmp 4) (.tmp 58) rfl ga StMath.zero ⟨c.s.p, c.s.l + 1, c.s.r⟩ rfl rfl HA4.out ?_)
      exact ret_st ga ⟨c.s.p, c.s.l + 1, c.s.r⟩ (.int .i64 0) rfl rfl rfl (StAt.row HA4.out) rfl ⟨by rw [H.out], below_setRow HB4.out (Nat.le_of_eq hga) _⟩
  · have hfw : IntKind.i64.wrap (c.s.p + 1 - now) = c.s.p + 1 - now := wrap_mid (by omega) (by omega)
    have hne : Nonempty (Grown1 w2) := ⟨⟨w2, Below.refl _ _⟩⟩
    obtain ⟨k0, _, _, _, _⟩ := HC2.out.cells
    have l1' := fun m : Grown1 w2 => grown1_cell l1 m
    have k0' := fun m : Grown1 w2 => grown1_cell k0 m
    clear k0
    go_wp2_with fail
    (try simp only [Act.put])
    refine wp_region_grow (by kernel_rfl) (by kernel_rfl) ?_
    repeat (go_big_quiet_step (fail))
    refine wpQuiet_nil ?_
    intro _ hw'
    obtain ⟨n1, hw''⟩ := hw'
    subst hw''
    have HL5 : Hid (StAt n1.w gl c.s) := HL2.out.later n1.below HL2.out.lt
    have HA5 : Hid (StAt n1.w ga StMath.zero) := HA2.out.later n1.below HA2.out.lt
    have HC5 : Hid (RkAt n1.w g c) := HC2.out.later n1.below HC2.out.lt
    have HB5 : Hid (Below w.heap.size w n1.w) := HB2.out.trans (n1.below.mono HB2.out.size)
    clear HL2 HA2 HC2 HB2 l0 l1 l2 l1' k0' f0 f1
    generalize n1.w = w2 at *
    clear hne n1
    have HL2 := HL5
    have HA2 := HA5
    have HC2 := HC5
    have HB2 := HB5
    obtain ⟨l0, l1, l2⟩ := HL2.out.cells
    have f0 := HL2.out.frozen 0
    have f1 := HL2.out.frozen 1
    clear HL5 HA5 HC5 HB5
    go_upto_region 11 with (fail)
    have HL3 : Hid (StAt ((w2.setCell ⟨gl, 0, none⟩ (.int .i64 (c.s.p + 1))).setCell ⟨gl, 1, none⟩ (.int .i64 (0))) gl ⟨c.s.p + 1, 0, c.s.r⟩) := ⟨(Arr.set (Arr.set HL2.out.arr 0 _) 1 _)⟩
    have HA3 : Hid (StAt ((w2.setCell ⟨gl, 0, none⟩ (.int .i64 (c.s.p + 1))).setCell ⟨gl, 1, none⟩ (.int .i64 (0))) ga StMath.zero) := ⟨(Arr.set_other (Arr.set_other HA2.out.arr _ (by show ga ≠ gl; omega) _) _ (by show ga ≠ gl; omega) _)⟩
    have HC3 : Hid (RkAt ((w2.setCell ⟨gl, 0, none⟩ (.int .i64 (c.s.p + 1))).setCell ⟨gl, 1, none⟩ (.int .i64 (0))) g c) := ⟨(Arr.set_other (Arr.set_other HC2.out.arr _ (by show g ≠ gl; omega) _) _ (by show g ≠ gl; omega) _)⟩
    have HB3 : Hid (Below w.heap.size w ((w2.setCell ⟨gl, 0, none⟩ (.int .i64 (c.s.p + 1))).setCell ⟨gl, 1, none⟩ (.int .i64 (0)))) := ((HB2.out.setCell (by show w.heap.size ≤ gl; omega) _).setCell (by show w.heap.size ≤ gl; omega) _)
    clear HL2 HA2 HC2 HB2 l0 l1 l2 f0 f1
    generalize (w2.setCell ⟨gl, 0, none⟩ (.int .i64 (c.s.p + 1))).setCell ⟨gl, 1, none⟩ (.int .i64 (0)) = w3 at *
    obtain ⟨l0, l1, l2⟩ := HL3.out.cells
    obtain ⟨k0, k1, k2, k3, k4⟩ := HC3.out.cells
    rcases hcs with ⟨h5, H⟩ | ⟨h5, H⟩
    · skip
      have hne : Nonempty (Grown1 w3) := ⟨⟨w3, Below.refl _ _⟩⟩
      have l0' := fun m : Grown1 w3 => grown1_cell l0 m
      have k1' := fun m : Grown1 w3 => grown1_cell k1 m
      clear l0 l1 l2 k0 k1 k2 k3 k4
      (try simp only [Act.put])
      refine wp_region_grow (by kernel_rfl) (by kernel_rfl) ?_
      repeat (go_big_quiet_step (fail))
      refine wpQuiet_nil ?_
      intro _ hw'
      obtain ⟨n1, hw''⟩ := hw'
      subst hw''
      have HL4 : Hid (StAt n1.w gl ⟨c.s.p + 1, 0, c.s.r⟩) := HL3.out.later n1.below HL3.out.lt
      have HA4 : Hid (StAt n1.w ga StMath.zero) := HA3.out.later n1.below HA3.out.lt
      have HB4 : Hid (Below w.heap.size w n1.w) := HB3.out.trans (n1.below.mono HB3.out.size)
      clear HL3 HA3 HC3 HB3 l0' k1'
      generalize n1.w = w4 at *
      clear hne n1
      go_wp2_with (refine wpList_store_st rfl (.tmp 4) (.tmp 57) rfl ga StMath.zero StMath.zero rfl rfl HA4.out ?_)
      exact ret_st ga StMath.zero (.int .i64 28) rfl rfl rfl (StAt.row HA4.out) rfl ⟨by rw [H.out], below_setRow HB4.out (Nat.le_of_eq hga) _⟩
    · skip
      have hne : Nonempty (Grown1 w3) := ⟨⟨w3, Below.refl _ _⟩⟩
      have l0' := fun m : Grown1 w3 => grown1_cell l0 m
      have k1' := fun m : Grown1 w3 => grown1_cell k1 m
      clear l0 l1 l2 k0 k1 k2 k3 k4
      (try simp only [Act.put])
      refine wp_region_grow (by kernel_rfl) (by kernel_rfl) ?_
      repeat (go_big_quiet_step (fail))
      refine wpQuiet_nil ?_
      intro _ hw'
      obtain ⟨n1, hw''⟩ := hw'
      subst hw''
      have HL4 : Hid (StAt n1.w gl ⟨c.s.p + 1, 0, c.s.r⟩) := HL3.out.later n1.below HL3.out.lt
      have HA4 : Hid (StAt n1.w ga StMath.zero) := HA3.out.later n1.below HA3.out.lt
      have HB4 : Hid (Below w.heap.size w n1.w) := HB3.out.trans (n1.below.mono HB3.out.size)
      clear HL3 HA3 HC3 HB3 l0' k1'
      generalize n1.w = w4 at *
      clear hne n1
      go_wp2_with (first
        | refine wpList_load_mid rfl 32 (.tmp 6) rfl gl 0 rfl (stL ⟨c.s.p + 1, 0, c.s.r⟩) _ (range_of_arr HL4.out.arr) Try.underlying32 rfl sizeSt ?_
        | refine wpList_store_st rfl (.tmp 4) (.tmp 58) rfl ga StMath.zero ⟨c.s.p + 1, 0, c.s.r⟩ rfl rfl HA4.out ?_)
      exact ret_st ga ⟨c.s.p + 1, 0, c.s.r⟩ (.int .i64 0) rfl rfl rfl (StAt.row HA4.out) rfl ⟨by rw [H.out], below_setRow HB4.out (Nat.le_of_eq hga) _⟩
  · skip
    have hne : Nonempty (Grown1 w2) := ⟨⟨w2, Below.refl _ _⟩⟩
    obtain ⟨k0, _, _, _, _⟩ := HC2.out.cells
    have l1' := fun m : Grown1 w2 => grown1_cell l1 m
    have k0' := fun m : Grown1 w2 => grown1_cell k0 m
    clear k0
    go_wp2_with fail
    (try simp only [Act.put])
    refine wp_region_grow (by kernel_rfl) (by kernel_rfl) ?_
    repeat (go_big_quiet_step (fail))
    refine wpQuiet_nil ?_
    intro _ hw'
    obtain ⟨n1, hw''⟩ := hw'
    subst hw''
    have HL5 : Hid (StAt n1.w gl c.s) := HL2.out.later n1.below HL2.out.lt
    have HA5 : Hid (StAt n1.w ga StMath.zero) := HA2.out.later n1.below HA2.out.lt
    have HC5 : Hid (RkAt n1.w g c) := HC2.out.later n1.below HC2.out.lt
    have HB5 : Hid (Below w.heap.size w n1.w) := HB2.out.trans (n1.below.mono HB2.out.size)
    clear HL2 HA2 HC2 HB2 l0 l1 l2 l1' k0' f0 f1
    generalize n1.w = w2 at *
    clear hne n1
    have HL2 := HL5
    have HA2 := HA5
    have HC2 := HC5
    have HB2 := HB5
    obtain ⟨l0, l1, l2⟩ := HL2.out.cells
    have f0 := HL2.out.frozen 0
    have f1 := HL2.out.frozen 1
    clear HL5 HA5 HC5 HB5
    go_wp2_with (refine wpList_store_st rfl (.tmp 4) (.tmp 18) rfl ga StMath.zero StMath.zero rfl rfl HA2.out ?_)
    exact ret_st ga StMath.zero (.int .i64 27) rfl rfl rfl (StAt.row HA2.out) rfl ⟨by rw [H.out], below_setRow HB2.out (Nat.le_of_eq hga) _⟩
end Go.Proofs.Ytecijlgkadlmnaa
