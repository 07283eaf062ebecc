/-
  Walks of hlc's following, Peek and Next.
-/
import Derived.Test.YtecijlgkadlmnaaFnHlcB
import Derived.Test.YtecijlgkadlmnaaGrowKit
import Derived.Deep.Cut
namespace Go.Proofs.Ytecijlgkadlmnaa
open Go.RowKit NumMath
open StMath (St)
open HlcMath (Ck)
set_option maxRecDepth 100000
set_option linter.unusedVariables false
set_option linter.unusedSimpArgs false

def follV (o : Option St) : St × Int := match o with | some s => (s, 0) | none => (StMath.zero, 27)
/-- What follows: four ways. -/
theorem foll_cases (c : Ck) (now : Int) :
    (c.s.p < now ∧ Hid (HlcMath.foll c now = some ⟨now, 0, c.s.r⟩)) ∨ ((now ≤ c.s.p ∧ c.s.l < c.m) ∧ Hid (HlcMath.foll c now = some ⟨c.s.p, c.s.l + 1, c.s.r⟩)) ∨
    ((now ≤ c.s.p ∧ c.m ≤ c.s.l ∧ c.s.p < 281474976710655) ∧ Hid (HlcMath.foll c now = some ⟨c.s.p + 1, 0, c.s.r⟩)) ∨ ((now ≤ c.s.p ∧ c.m ≤ c.s.l ∧ 281474976710655 ≤ c.s.p) ∧ Hid (HlcMath.foll c now = none)) := by
  unfold HlcMath.foll Hid
  by_cases h1 : c.s.p < now
  · left; exact ⟨h1, by rw [if_pos h1]⟩
  · by_cases h2 : c.s.l < c.m
    · right; left; exact ⟨⟨by omega, h2⟩, by rw [if_neg h1, if_pos h2]⟩
    · by_cases h3 : c.s.p < 281474976710655
      · right; right; left; exact ⟨⟨by omega, by omega, h3⟩, by rw [if_neg h1, if_neg h2, if_pos h3]⟩
      · right; right; right; exact ⟨⟨by omega, by omega, by omega⟩, by rw [if_neg h1, if_neg h2, if_neg h3]⟩

set_option maxRecDepth 100000 in
set_option maxHeartbeats 8000000 in
theorem following_any (g : Nat) (c : Ck) (now : Int) (w : World) (hc : CkAt w g c) (ho : HlcMath.Ok c) :
    Calls Try.prog 31 #[.pointer (some ⟨g, 0, none⟩), .int .i64 now] w fun e w' => e = .returned (.tuple #[stV (follV (HlcMath.foll c now)).1, .int .i64 (follV (HlcMath.foll c now)).2]) ∧ Below w.heap.size w w' := by
  have HA0 : Hid (StAt (w.alloc (.cells #[.int .i64 0, .int .i64 0, .int .i64 0] 32)) w.heap.size StMath.zero) := StAt.new w StMath.zero rfl
  have HB0 : Hid (Below w.heap.size w (w.alloc (.cells #[.int .i64 0, .int .i64 0, .int .i64 0] 32))) := (Below.refl _ _).alloc (Nat.le_refl _) _
  have HC0 : Hid (CkAt (w.alloc (.cells #[.int .i64 0, .int .i64 0, .int .i64 0] 32)) g c) := hc.alloc _
  have hg : g < w.heap.size := hc.lt
  have HO : Hid (∀ p l w, CkAt w g c → _) := fun p l w (hc : CkAt w g c) => own_any g c p l w hc
  have HR : Hid (∀ p l w, CkAt w g c → _) := fun p l w (hc : CkAt w g c) => hasReached_any g c p l w hc
  have hp0 := ho.p0
  have hp1 := ho.p1
  have hl0 := ho.l0
  have hl1 := ho.l1
  have hw1 : IntKind.i64.wrap (c.s.l + 1) = c.s.l + 1 := wrap_small (by omega) (by omega)
  have hw2 : IntKind.i64.wrap (c.s.p + 1) = c.s.p + 1 := wrap_small (by omega) (by omega)
  clear hc ho
  unfold stV at HO HR
  dsimp only at HO HR
  go_enter Try.func31, Try.ntmps31
  go_upto_region 1 with (fail)
  generalize w.alloc (.cells #[.int .i64 0, .int .i64 0, .int .i64 0] 32) = w0 at *
  have hs0 : w.heap.size < w0.heap.size := HA0.out.lt
  have HL0 : Hid (StAt (w0.alloc (.cells #[.int .i64 0, .int .i64 0, .int .i64 0] 32)) w0.heap.size StMath.zero) := StAt.new w0 StMath.zero rfl
  have HA1 : Hid (StAt (w0.alloc (.cells #[.int .i64 0, .int .i64 0, .int .i64 0] 32)) w.heap.size StMath.zero) := HA0.out.alloc _
  have HC1 : Hid (CkAt (w0.alloc (.cells #[.int .i64 0, .int .i64 0, .int .i64 0] 32)) g c) := HC0.out.alloc _
  have HB1 : Hid (Below w.heap.size w (w0.alloc (.cells #[.int .i64 0, .int .i64 0, .int .i64 0] 32))) := HB0.out.alloc HB0.out.size _
  clear HA0 HB0
  go_upto_region 2 with (first
    | refine wpList_load_mid rfl 32 (.tmp 9) rfl g 0 rfl (stL c.s) _ HC0.out.range Try.underlying32 rfl sizeSt ?_
    | refine wpList_store_st rfl (.tmp 6) (.tmp 10) rfl w0.heap.size StMath.zero c.s rfl rfl HL0.out ?_)
  have HL2 : Hid (StAt ((w0.alloc (.cells #[.int .i64 0, .int .i64 0, .int .i64 0] 32)).setRow w0.heap.size (stL c.s).toArray) w0.heap.size c.s) := StAt.row HL0.out
  have HA2 : Hid (StAt ((w0.alloc (.cells #[.int .i64 0, .int .i64 0, .int .i64 0] 32)).setRow w0.heap.size (stL c.s).toArray) w.heap.size StMath.zero) := StAt.row_other HA1.out _ (by omega)
  have HC2 : Hid (CkAt ((w0.alloc (.cells #[.int .i64 0, .int .i64 0, .int .i64 0] 32)).setRow w0.heap.size (stL c.s).toArray) g c) := CkAt.row_other HC1.out _ (by omega)
  have HB2 : Hid (Below w.heap.size w ((w0.alloc (.cells #[.int .i64 0, .int .i64 0, .int .i64 0] 32)).setRow w0.heap.size (stL c.s).toArray)) := below_setRow HB1.out (by omega) _
  clear HL0 HA1 HC1 HB1 HC0
  generalize (w0.alloc (.cells #[.int .i64 0, .int .i64 0, .int .i64 0] 32)).setRow w0.heap.size (stL c.s).toArray = w2 at *
  generalize w0.heap.size = gl at *
  generalize hga : w.heap.size = ga at HA2 ⊢
  clear hs0
  obtain ⟨l0, l1, l2⟩ := HL2.out.cells
  rcases foll_cases c now with ⟨h1, H⟩ | ⟨⟨h1, h2⟩, H⟩ | ⟨⟨h1, h2, h3⟩, H⟩ | ⟨⟨h1, h2, h3⟩, H⟩
  · go_wp2_with fail
    refine Calls.mono (HO.out _ _ _ HC2.out) ?_
    rintro e w3 ⟨rfl, hb3⟩
    have HA3 : Hid (StAt w3 ga StMath.zero) := HA2.out.later hb3 HA2.out.lt
    have HB3 : Hid (Below w.heap.size w w3) := HB2.out.trans (hb3.mono HB2.out.size)
    clear hb3
    go_wp2_with (refine wpList_store_st rfl (.tmp 4) (.tmp 18) rfl ga StMath.zero ⟨now, 0, c.s.r⟩ rfl rfl HA3.out ?_)
    refine ret_st ga ⟨now, 0, c.s.r⟩ (.int .i64 0) rfl rfl rfl (StAt.row HA3.out) rfl ⟨by rw [H.out]; rfl, ?_⟩
    exact below_setRow HB3.out (Nat.le_of_eq hga) _
  · have hR : reached c c.s.p c.m = false := by unfold reached; simp; exact h2
    have h5 : ¬ c.s.p < now := by omega
    have hne : Nonempty (Grown1 w2) := ⟨⟨w2, Below.refl _ _⟩⟩
    obtain ⟨k0, k1, k2, k3, k4⟩ := HC2.out.cells
    have l0' := fun m : Grown1 w2 => grown1_cell l0 m
    have k3' := fun m : Grown1 w2 => grown1_cell k3 m
    have HOm : Hid (∀ m : Grown1 w2, _) := fun m => HO.out c.s.p c.m m.w (HC2.out.later m.below HC2.out.lt)
    have HRm : Hid (∀ m : Grown1 w2, _) := fun m => HR.out c.s.p c.m m.w (HC2.out.later m.below HC2.out.lt)
    rw [hR] at HRm
    clear k0 k1 k2 k3 k4
    go_wp2_with fail
    (try simp only [Act.put])
    refine wp_region_grow (by kernel_rfl) (by kernel_rfl) ?_
    repeat (go_big_quiet_step (first | with_reducible exact grown1_call _ (HOm.out _) | with_reducible exact grown1_call _ (HRm.out _)))
    refine wpQuiet_nil ?_
    intro _ hw'
    obtain ⟨n1, hw''⟩ := hw'
    subst hw''
    have HL3 : Hid (StAt n1.w gl c.s) := HL2.out.later n1.below HL2.out.lt
    have HA3 : Hid (StAt n1.w ga StMath.zero) := HA2.out.later n1.below HA2.out.lt
    have HC3 : Hid (CkAt n1.w g c) := HC2.out.later n1.below HC2.out.lt
    have HB3 : Hid (Below w.heap.size w n1.w) := HB2.out.trans (n1.below.mono HB2.out.size)
    clear l0 l1 l2 HL2 HA2 HC2 HB2 HOm HRm l0' k3'
    generalize n1.w = w3 at *
    clear hne n1
    obtain ⟨l0, l1, l2⟩ := HL3.out.cells
    go_wp2_with fail
    refine Calls.mono (HO.out c.s.p (c.s.l + 1) _ HC3.out) ?_
    rintro e w4 ⟨rfl, hb4⟩
    have HA4 : Hid (StAt w4 ga StMath.zero) := HA3.out.later hb4 HA3.out.lt
    have HB4 : Hid (Below w.heap.size w w4) := HB3.out.trans (hb4.mono HB3.out.size)
    clear hb4
    go_wp2_with (refine wpList_store_st rfl (.tmp 4) (.tmp 37) rfl ga StMath.zero ⟨c.s.p, c.s.l + 1, c.s.r⟩ rfl rfl HA4.out ?_)
    refine ret_st ga ⟨c.s.p, c.s.l + 1, c.s.r⟩ (.int .i64 0) rfl rfl rfl (StAt.row HA4.out) rfl ⟨by rw [H.out]; rfl, ?_⟩
    exact below_setRow HB4.out (Nat.le_of_eq hga) _
  · have hR : reached c c.s.p c.m = true := by unfold reached; simp; exact h2
    have hne : Nonempty (Grown1 w2) := ⟨⟨w2, Below.refl _ _⟩⟩
    obtain ⟨k0, k1, k2, k3, k4⟩ := HC2.out.cells
    have l0' := fun m : Grown1 w2 => grown1_cell l0 m
    have k3' := fun m : Grown1 w2 => grown1_cell k3 m
    have HOm : Hid (∀ m : Grown1 w2, _) := fun m => HO.out c.s.p c.m m.w (HC2.out.later m.below HC2.out.lt)
    have HRm : Hid (∀ m : Grown1 w2, _) := fun m => HR.out c.s.p c.m m.w (HC2.out.later m.below HC2.out.lt)
    rw [hR] at HRm
    clear k0 k1 k2 k3 k4
    go_wp2_with fail
    (try simp only [Act.put])
    refine wp_region_grow (by kernel_rfl) (by kernel_rfl) ?_
    repeat (go_big_quiet_step (first | with_reducible exact grown1_call _ (HOm.out _) | with_reducible exact grown1_call _ (HRm.out _)))
    refine wpQuiet_nil ?_
    intro _ hw'
    obtain ⟨n1, hw''⟩ := hw'
    subst hw''
    have HL3 : Hid (StAt n1.w gl c.s) := HL2.out.later n1.below HL2.out.lt
    have HA3 : Hid (StAt n1.w ga StMath.zero) := HA2.out.later n1.below HA2.out.lt
    have HC3 : Hid (CkAt n1.w g c) := HC2.out.later n1.below HC2.out.lt
    have HB3 : Hid (Below w.heap.size w n1.w) := HB2.out.trans (n1.below.mono HB2.out.size)
    clear l0 l1 l2 HL2 HA2 HC2 HB2 HOm HRm l0' k3'
    generalize n1.w = w3 at *
    clear hne n1
    obtain ⟨l0, l1, l2⟩ := HL3.out.cells
    go_wp2_with fail
    refine Calls.mono (HO.out (c.s.p + 1) 0 _ HC3.out) ?_
    rintro e w4 ⟨rfl, hb4⟩
    have HA4 : Hid (StAt w4 ga StMath.zero) := HA3.out.later hb4 HA3.out.lt
    have HB4 : Hid (Below w.heap.size w w4) := HB3.out.trans (hb4.mono HB3.out.size)
    clear hb4
    go_wp2_with (refine wpList_store_st rfl (.tmp 4) (.tmp 46) rfl ga StMath.zero ⟨c.s.p + 1, 0, c.s.r⟩ rfl rfl HA4.out ?_)
    refine ret_st ga ⟨c.s.p + 1, 0, c.s.r⟩ (.int .i64 0) rfl rfl rfl (StAt.row HA4.out) rfl ⟨by rw [H.out]; rfl, ?_⟩
    exact below_setRow HB4.out (Nat.le_of_eq hga) _
  · have hR : reached c c.s.p c.m = true := by unfold reached; simp; exact h2
    have hne : Nonempty (Grown1 w2) := ⟨⟨w2, Below.refl _ _⟩⟩
    obtain ⟨k0, k1, k2, k3, k4⟩ := HC2.out.cells
    have l0' := fun m : Grown1 w2 => grown1_cell l0 m
    have k3' := fun m : Grown1 w2 => grown1_cell k3 m
    have HOm : Hid (∀ m : Grown1 w2, _) := fun m => HO.out c.s.p c.m m.w (HC2.out.later m.below HC2.out.lt)
    have HRm : Hid (∀ m : Grown1 w2, _) := fun m => HR.out c.s.p c.m m.w (HC2.out.later m.below HC2.out.lt)
    rw [hR] at HRm
    clear k0 k1 k2 k3 k4
    go_wp2_with fail
    (try simp only [Act.put])
    refine wp_region_grow (by kernel_rfl) (by kernel_rfl) ?_
    repeat (go_big_quiet_step (first | with_reducible exact grown1_call _ (HOm.out _) | with_reducible exact grown1_call _ (HRm.out _)))
    refine wpQuiet_nil ?_
    intro _ hw'
    obtain ⟨n1, hw''⟩ := hw'
    subst hw''
    have HL3 : Hid (StAt n1.w gl c.s) := HL2.out.later n1.below HL2.out.lt
    have HA3 : Hid (StAt n1.w ga StMath.zero) := HA2.out.later n1.below HA2.out.lt
    have HC3 : Hid (CkAt n1.w g c) := HC2.out.later n1.below HC2.out.lt
    have HB3 : Hid (Below w.heap.size w n1.w) := HB2.out.trans (n1.below.mono HB2.out.size)
    clear l0 l1 l2 HL2 HA2 HC2 HB2 HOm HRm l0' k3'
    generalize n1.w = w3 at *
    clear hne n1
    obtain ⟨l0, l1, l2⟩ := HL3.out.cells
    go_wp2_with (refine wpList_store_st rfl (.tmp 4) (.tmp 47) rfl ga StMath.zero StMath.zero rfl rfl HA3.out ?_)
    refine ret_st ga StMath.zero (.int .i64 27) rfl rfl rfl (StAt.row HA3.out) rfl ⟨by rw [H.out]; rfl, ?_⟩
    exact below_setRow HB3.out (Nat.le_of_eq hga) _
end Go.Proofs.Ytecijlgkadlmnaa
