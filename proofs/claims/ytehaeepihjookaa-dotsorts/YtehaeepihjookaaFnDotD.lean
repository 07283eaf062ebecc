/-
  Walk of newsreelref1.Rising.
-/
import Derived.Test.YtehaeepihjookaaFnDotA
import Derived.Test.YtehaeepihjookaaDotOwn
import Derived.Test.YtehaeepihjookaaGrowKit
import Derived.Deep.Cut
namespace Go.Proofs.Ytehaeepihjookaa
open Go.RowKit NumMath
open DotMath (Dt)
set_option maxRecDepth 100000
set_option linter.unusedVariables false
set_option linter.unusedSimpArgs false

set_option maxHeartbeats 8000000 in
theorem refRising_any (a : Option Addr) (ds : List Dt) (cap : Nat) (w : World) (hr : DRow w a ds) (hc : ds.length ≤ cap) (hm : cap ≤ maxLen) :
    Calls Try.prog 34 #[.slice a ds.length cap] w fun e w' => e = .returned (.bool (DotMath.rises ds && decide (ds.length ≤ 16))) ∧ Below w.heap.size w w' := by
  unfold maxLen at hm
  by_cases h0 : ds.length = 0
  · obtain rfl := List.eq_nil_of_length_eq_zero h0
    go_enter Try.func34, Try.ntmps34
    go_wp2
    refine wp_loop_rounds 1 ?_
    rw [rounds_succ]
    go_wp2
    go_ret
    exact ⟨rfl, Below.refl _ _⟩
  · obtain ⟨b, off, rfl, _⟩ := hr.at (by omega)
    have HC : Hid (∀ k, k < ds.length → ∀ w', Below w.heap.size w w' → _) := fun k hk w' hB => DRow.cells (hr.later hB) hk
    have HA : Hid (DotMath.rises ds = DotMath.risesTo ds ds.length) := rfl
    have HS : Hid (∀ k, DotMath.risesTo ds (k + 1) = (DotMath.risesTo ds k && DotMath.okAt ds k)) := DotMath.risesTo_succ ds
    have HNo : Hid (∀ k, k < ds.length → DotMath.okAt ds k = false → DotMath.rises ds = false) := fun k hk h => DotMath.risesTo_no hk h
    have HOk0 : Hid (DotMath.okAt ds 0 = DotMath.right (ds[0]?.getD DotMath.zero)) := by show _ = _; simp [DotMath.okAt]
    have HOkS : Hid (∀ j, DotMath.okAt ds (j + 1) = (DotMath.right (ds[j + 1]?.getD DotMath.zero) && DotMath.less (ds[j]?.getD DotMath.zero) (ds[j + 1]?.getD DotMath.zero))) := fun j => by simp [DotMath.okAt]
    obtain ⟨n, hn⟩ : ∃ n, n = ds.length := ⟨_, rfl⟩
    rw [← hn] at hc HC HA HNo ⊢
    clear hn hr h0
    go_enter Try.func34, Try.ntmps34
    go_wp2
    go_loopw [3] (fun i wr => ∃ k : Nat, k ≤ n ∧ i = .int .i64 k ∧ DotMath.risesTo ds k = true ∧ Below w.heap.size w wr) (fun i _ => n - (intOf i).toNat)
    case atStart => exact ⟨0, by omega, rfl, rfl, Below.refl _ _⟩
    case round =>
      obtain ⟨k, hk, rfl, hT, hB⟩ := hrel
      have HB : Hid (Below w.heap.size w wr) := hB
      have HT : Hid (DotMath.risesTo ds k = true) := hT
      clear hB hT
      by_cases hkn : k < n
      · have hki : (k : Int) < (n : Int) := by omega
        have hkc : (k : Int) < (cap : Int) := by omega
        obtain ⟨p0, p1⟩ := HC.out k hkn wr HB.out
        have hne : Nonempty (Grown1 wr) := ⟨⟨wr, Below.refl _ _⟩⟩
        cases k with
        | zero =>
          have HR1 : Hid (∀ u : Grown1 wr, _) := fun u => refDotRight_any (ds[0]?.getD DotMath.zero) u.w
          have HOk : Hid _ := HOk0.out
          simp only [Nat.zero_mul, Nat.add_zero, Nat.zero_add] at p0 p1
          generalize ds[0]?.getD DotMath.zero = d at *
          have p0' := fun u : Grown1 wr => grown1_cell p0 u
          have p1' := fun u : Grown1 wr => grown1_cell p1 u
          clear p0 p1
          unfold dtV at HR1
          cases hq : DotMath.right d with
          | false =>
            have HN : Hid (DotMath.rises ds = false) := HNo.out 0 hkn (by rw [HOk.out]; exact hq)
            rw [hq] at HR1
            go_upto_region 4 with (fail)
            (try simp only [Act.put])
            refine wp_region_grow (by kernel_rfl) (by kernel_rfl) ?_
            repeat (go_big_quiet_step (first | with_reducible exact grown1_call _ (HR1.out _) | fail))
            refine wpQuiet_nil ?_
            intro _ hw'
            obtain ⟨n1, hw''⟩ := hw'
            subst hw''
            have HB7 : Hid (Below w.heap.size w n1.w) := HB.out.trans (n1.below.mono HB.out.size)
            generalize n1.w = u7 at *
            go_wp2
            go_ret
            exact ⟨by rw [HN.out]; rfl, HB7.out⟩
          | true =>
            have HN : Hid (DotMath.risesTo ds 1 = true) := by show _ = _; rw [HS.out 0, HT.out, HOk.out, hq]; rfl
            rw [hq] at HR1
            go_upto_region 4 with (fail)
            (try simp only [Act.put])
            refine wp_region_grow (by kernel_rfl) (by kernel_rfl) ?_
            repeat (go_big_quiet_step (first | with_reducible exact grown1_call _ (HR1.out _) | fail))
            refine wpQuiet_nil ?_
            intro _ hw'
            obtain ⟨n1, hw''⟩ := hw'
            subst hw''
            have HB7 : Hid (Below w.heap.size w n1.w) := HB.out.trans (n1.below.mono HB.out.size)
            clear HB HR1 p0' p1' hq
            generalize n1.w = u7 at *
            clear hne n1
            go_wp2
            go_roundw
            case rel => exact ⟨1, by omega, by go_num, HN.out, HB7.out⟩
            case measure => simp [intOf]; omega
        | succ j =>
          obtain ⟨q0, q1⟩ := HC.out j (by omega) wr HB.out
          have HR1 : Hid (∀ u : Grown1 wr, _) := fun u => refDotRight_any (ds[j + 1]?.getD DotMath.zero) u.w
          have HL1 : Hid (∀ u : Grown1 wr, _) := fun u => refDotLess_any (ds[j]?.getD DotMath.zero) (ds[j + 1]?.getD DotMath.zero) u.w
          have HOk : Hid _ := HOkS.out j
          generalize ds[j + 1]?.getD DotMath.zero = d at *
          generalize ds[j]?.getD DotMath.zero = dp at *
          have hj0 : (0 : Int) < ((j + 1 : Nat) : Int) := by omega
          have ej : IntKind.i64.wrap (((j + 1 : Nat) : Int) - 1) = (j : Int) := by rw [IntKind.wrap_i64]; omega
          have hjc : (j : Int) < (cap : Int) := by omega
          have hjn : (j : Int) < (n : Int) := by omega
          have p0' := fun u : Grown1 wr => grown1_cell p0 u
          have p1' := fun u : Grown1 wr => grown1_cell p1 u
          have q0' := fun u : Grown1 wr => grown1_cell q0 u
          have q1' := fun u : Grown1 wr => grown1_cell q1 u
          clear p0 p1 q0 q1
          unfold dtV at HR1 HL1
          cases hq : DotMath.right d with
          | false =>
            have HN : Hid (DotMath.rises ds = false) := HNo.out (j + 1) hkn (by rw [HOk.out, hq]; rfl)
            rw [hq] at HR1
            go_upto_region 4 with (fail)
            (try simp only [Act.put])
            refine wp_region_grow (by kernel_rfl) (by kernel_rfl) ?_
            repeat (go_big_quiet_step (first | with_reducible exact grown1_call _ (HR1.out _) | fail))
            refine wpQuiet_nil ?_
            intro _ hw'
            obtain ⟨n1, hw''⟩ := hw'
            subst hw''
            have HB7 : Hid (Below w.heap.size w n1.w) := HB.out.trans (n1.below.mono HB.out.size)
            generalize n1.w = u7 at *
            go_wp2
            go_ret
            exact ⟨by rw [HN.out]; rfl, HB7.out⟩
          | true =>
            rw [hq] at HR1
            cases hl : DotMath.less dp d with
            | false =>
              have HN : Hid (DotMath.rises ds = false) := HNo.out (j + 1) hkn (by rw [HOk.out, hl]; simp)
              rw [hl] at HL1
              go_upto_region 4 with (fail)
              (try simp only [Act.put])
              refine wp_region_grow (by kernel_rfl) (by kernel_rfl) ?_
              repeat (go_big_quiet_step (first | with_reducible exact grown1_call _ (HR1.out _) | with_reducible exact grown1_call _ (HL1.out _) | fail))
              refine wpQuiet_nil ?_
              intro _ hw'
              obtain ⟨n1, hw''⟩ := hw'
              subst hw''
              have HB7 : Hid (Below w.heap.size w n1.w) := HB.out.trans (n1.below.mono HB.out.size)
              generalize n1.w = u7 at *
              go_wp2
              go_ret
              exact ⟨by rw [HN.out]; rfl, HB7.out⟩
            | true =>
              have HN : Hid (DotMath.risesTo ds (j + 1 + 1) = true) := by show _ = _; rw [HS.out (j + 1), HT.out, HOk.out, hq, hl]; rfl
              rw [hl] at HL1
              go_upto_region 4 with (fail)
              (try simp only [Act.put])
              refine wp_region_grow (by kernel_rfl) (by kernel_rfl) ?_
              repeat (go_big_quiet_step (first | with_reducible exact grown1_call _ (HR1.out _) | with_reducible exact grown1_call _ (HL1.out _) | fail))
              refine wpQuiet_nil ?_
              intro _ hw'
              obtain ⟨n1, hw''⟩ := hw'
              subst hw''
              have HB7 : Hid (Below w.heap.size w n1.w) := HB.out.trans (n1.below.mono HB.out.size)
              clear HB HR1 HL1 p0' p1' q0' q1' hq hl
              generalize n1.w = u7 at *
              clear hne n1
              go_wp2
              go_roundw
              case rel => exact ⟨j + 1 + 1, by omega, by go_num, HN.out, HB7.out⟩
              case measure => simp [intOf]; omega
      · have hkk : k = n := by omega
        have hdk : decide ((k : Int) < (n : Int)) = false := by simp; omega
        have HF : Hid (DotMath.rises ds = true) := by show _ = _; rw [HA.out, ← hkk]; exact HT.out
        clear HT
        go_wp2
        go_ret
        refine ⟨?_, HB.out⟩
        rw [HF.out]
        first | rfl | (simp; done) | (simp; omega)
end Go.Proofs.Ytehaeepihjookaa
