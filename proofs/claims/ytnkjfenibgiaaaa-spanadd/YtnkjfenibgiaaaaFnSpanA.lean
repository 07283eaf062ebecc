/-
  Walk of newsreelref1.SpanRight.
-/
import Derived.Test.YtnkjfenibgiaaaaRngOwn
import Derived.Test.YtnkjfenibgiaaaaGrowKit
import Derived.Deep.Cut
namespace Go.Proofs.Ytnkjfenibgiaaaa
open Go.RowKit NumMath
open SpanMath (Rg)
set_option maxRecDepth 100000
set_option linter.unusedVariables false
set_option linter.unusedSimpArgs false

theorem ok_cases (r : Rg) : (r.f < 1 ∧ Hid (SpanMath.ok r = false)) ∨ ((1 ≤ r.f ∧ 1099511627775 < r.t) ∧ Hid (SpanMath.ok r = false)) ∨ ((1 ≤ r.f ∧ r.t ≤ 1099511627775 ∧ r.t < r.f) ∧ Hid (SpanMath.ok r = false)) ∨ ((1 ≤ r.f ∧ r.t ≤ 1099511627775 ∧ r.f ≤ r.t) ∧ Hid (SpanMath.ok r = true)) := by
  unfold Hid SpanMath.ok
  simp only [decide_eq_false_iff_not, decide_eq_true_eq]
  omega
set_option maxHeartbeats 8000000 in
theorem refSpanRight_any (a : Option Addr) (ds : List Rg) (cap : Nat) (w : World) (hr : GRow w a ds) (hc : ds.length ≤ cap) (hm : cap ≤ maxLen) (hf : ∀ r ∈ ds, SpanMath.Fit r) :
    Calls Try.prog 11 #[.slice a ds.length cap] w fun e w' => e = .returned (.bool (SpanMath.right ds)) ∧ Below w.heap.size w w' := by
  unfold maxLen at hm
  by_cases h0 : ds.length = 0
  · obtain rfl := List.eq_nil_of_length_eq_zero h0
    go_enter Try.func11, Try.ntmps11
    go_wp2
    refine wp_loop_rounds 1 ?_
    rw [rounds_succ]
    go_wp2
    go_ret
    exact ⟨rfl, Below.refl _ _⟩
  · obtain ⟨b, off, rfl, _⟩ := hr.at (by omega)
    have HC : Hid (∀ k, k < ds.length → ∀ w', Below w.heap.size w w' → _) := fun k hk w' hB => GRow.cells (hr.later hB) hk
    have HA : Hid (SpanMath.right ds = SpanMath.rightTo ds ds.length) := rfl
    have HS : Hid (∀ k, SpanMath.rightTo ds (k + 1) = (SpanMath.rightTo ds k && SpanMath.okAt ds k)) := SpanMath.rightTo_succ ds
    have HNo : Hid (∀ k, k < ds.length → SpanMath.okAt ds k = false → SpanMath.right ds = false) := fun k hk h => SpanMath.rightTo_no hk h
    have HOk0 : Hid (SpanMath.okAt ds 0 = SpanMath.ok (ds[0]?.getD SpanMath.zero)) := by show _ = _; simp [SpanMath.okAt]
    have HOkS : Hid (∀ j, SpanMath.okAt ds (j + 1) = (SpanMath.ok (ds[j + 1]?.getD SpanMath.zero) && decide ((ds[j]?.getD SpanMath.zero).t < (ds[j + 1]?.getD SpanMath.zero).f - 1))) := fun j => by simp [SpanMath.okAt]
    have HFt : Hid (∀ k, k < ds.length → SpanMath.Fit (ds[k]?.getD SpanMath.zero)) := fun k hk => by
      rw [List.getElem?_eq_getElem hk]; exact hf _ (List.getElem_mem hk)
    obtain ⟨n, hn⟩ : ∃ n, n = ds.length := ⟨_, rfl⟩
    rw [← hn] at hc HC HA HNo HFt ⊢
    clear hn hr h0 hf
    go_enter Try.func11, Try.ntmps11
    go_wp2
    go_loopw [3] (fun i wr => ∃ k : Nat, k ≤ n ∧ i = .int .i64 k ∧ SpanMath.rightTo ds k = true ∧ Below w.heap.size w wr) (fun i _ => n - (intOf i).toNat)
    case atStart => exact ⟨0, by omega, rfl, rfl, Below.refl _ _⟩
    case round =>
      obtain ⟨k, hk, rfl, hT, hB⟩ := hrel
      have HB : Hid (Below w.heap.size w wr) := hB
      have HT : Hid (SpanMath.rightTo ds k = true) := hT
      clear hB hT
      by_cases hkn : k < n
      · have hki : (k : Int) < (n : Int) := by omega
        have hkc : (k : Int) < (cap : Int) := by omega
        obtain ⟨p0, p1⟩ := HC.out k hkn wr HB.out
        have hfk := HFt.out k hkn
        have hne : Nonempty (Grown1 wr) := ⟨⟨wr, Below.refl _ _⟩⟩
        cases k with
        | zero =>
          have HOk : Hid _ := HOk0.out
          simp only [Nat.zero_mul, Nat.add_zero, Nat.zero_add] at p0 p1
          generalize ds[0]?.getD SpanMath.zero = d at *
          have p0' := fun u : Grown1 wr => grown1_cell p0 u
          have p1' := fun u : Grown1 wr => grown1_cell p1 u
          clear p0 p1
          unfold SpanMath.Fit at hfk
          rcases ok_cases d with ⟨h1, HK⟩ | ⟨⟨h1, h2⟩, HK⟩ | ⟨⟨h1, h2, h3⟩, HK⟩ | ⟨⟨h1, h2, h3⟩, HK⟩
          · have HN : Hid (SpanMath.right ds = false) := HNo.out 0 hkn (by rw [HOk.out]; exact HK.out)
            have b1 : decide (d.f < 1) = true := decide_eq_true h1
            go_upto_region 4 with (fail)
            (try simp only [Act.put])
            refine wp_region_grow (by kernel_rfl) (by kernel_rfl) ?_
            repeat (go_big_quiet_step (fail))
            refine wpQuiet_nil ?_
            intro _ hw'
            obtain ⟨n1, hw''⟩ := hw'
            subst hw''
            have HB7 : Hid (Below w.heap.size w n1.w) := HB.out.trans (n1.below.mono HB.out.size)
            generalize n1.w = u7 at *
            go_wp2
            go_ret
            exact ⟨by rw [HN.out]; rfl, HB7.out⟩
          · have HN : Hid (SpanMath.right ds = false) := HNo.out 0 hkn (by rw [HOk.out]; exact HK.out)
            have b1 : decide (d.f < 1) = false := decide_eq_false (by omega)
            have b2 : decide (1099511627775 < d.t) = true := decide_eq_true h2
            go_upto_region 4 with (fail)
            (try simp only [Act.put])
            refine wp_region_grow (by kernel_rfl) (by kernel_rfl) ?_
            repeat (go_big_quiet_step (fail))
            refine wpQuiet_nil ?_
            intro _ hw'
            obtain ⟨n1, hw''⟩ := hw'
            subst hw''
            have HB7 : Hid (Below w.heap.size w n1.w) := HB.out.trans (n1.below.mono HB.out.size)
            generalize n1.w = u7 at *
            go_wp2
            go_ret
            exact ⟨by rw [HN.out]; rfl, HB7.out⟩
          · have HN : Hid (SpanMath.right ds = false) := HNo.out 0 hkn (by rw [HOk.out]; exact HK.out)
            have b1 : decide (d.f < 1) = false := decide_eq_false (by omega)
            have b2 : decide (1099511627775 < d.t) = false := decide_eq_false (by omega)
            have b3 : decide (d.t < d.f) = true := decide_eq_true h3
            go_upto_region 4 with (fail)
            (try simp only [Act.put])
            refine wp_region_grow (by kernel_rfl) (by kernel_rfl) ?_
            repeat (go_big_quiet_step (fail))
            refine wpQuiet_nil ?_
            intro _ hw'
            obtain ⟨n1, hw''⟩ := hw'
            subst hw''
            have HB7 : Hid (Below w.heap.size w n1.w) := HB.out.trans (n1.below.mono HB.out.size)
            generalize n1.w = u7 at *
            go_wp2
            go_ret
            exact ⟨by rw [HN.out]; rfl, HB7.out⟩
          · have HN : Hid (SpanMath.rightTo ds 1 = true) := by show _ = _; rw [HS.out 0, HT.out, HOk.out, HK.out]; rfl
            have b1 : decide (d.f < 1) = false := decide_eq_false (by omega)
            have b2 : decide (1099511627775 < d.t) = false := decide_eq_false (by omega)
            have b3 : decide (d.t < d.f) = false := decide_eq_false (by omega)
            have b4 : decide ((0 : Int) < ((0 : Nat) : Int)) = false := by simp
            go_upto_region 4 with (fail)
            (try simp only [Act.put])
            refine wp_region_grow (by kernel_rfl) (by kernel_rfl) ?_
            repeat (go_big_quiet_step (fail))
            refine wpQuiet_nil ?_
            intro _ hw'
            obtain ⟨n1, hw''⟩ := hw'
            subst hw''
            have HB7 : Hid (Below w.heap.size w n1.w) := HB.out.trans (n1.below.mono HB.out.size)
            clear HB p0' p1' HK h1 h2 h3 hfk
            generalize n1.w = u7 at *
            clear hne n1
            go_wp2
            go_roundw
            case rel => exact ⟨1, by omega, by go_num, HN.out, HB7.out⟩
            case measure => simp [intOf]; omega
        | succ j =>
          obtain ⟨q0, q1⟩ := HC.out j (by omega) wr HB.out
          have HOk : Hid _ := HOkS.out j
          have hfj := HFt.out j (by omega)
          generalize ds[j + 1]?.getD SpanMath.zero = d at *
          generalize ds[j]?.getD SpanMath.zero = dp at *
          have hj0 : (0 : Int) < ((j + 1 : Nat) : Int) := by omega
          have ej : IntKind.i64.wrap (((j + 1 : Nat) : Int) - 1) = (j : Int) := by rw [IntKind.wrap_i64]; omega
          have hjc : (j : Int) < (cap : Int) := by omega
          have hjn : (j : Int) < (n : Int) := by omega
          have p0' := fun u : Grown1 wr => grown1_cell p0 u
          have p1' := fun u : Grown1 wr => grown1_cell p1 u
          clear p0 p1
          have q0' := fun u : Grown1 wr => grown1_cell q0 u
          have q1' := fun u : Grown1 wr => grown1_cell q1 u
          clear q0 q1
          unfold SpanMath.Fit at hfk hfj
          rcases ok_cases d with ⟨h1, HK⟩ | ⟨⟨h1, h2⟩, HK⟩ | ⟨⟨h1, h2, h3⟩, HK⟩ | ⟨⟨h1, h2, h3⟩, HK⟩
          · have HN : Hid (SpanMath.right ds = false) := HNo.out (j + 1) hkn (by rw [HOk.out, HK.out]; rfl)
            have b1 : decide (d.f < 1) = true := decide_eq_true h1
            go_upto_region 4 with (fail)
            (try simp only [Act.put])
            refine wp_region_grow (by kernel_rfl) (by kernel_rfl) ?_
            repeat (go_big_quiet_step (fail))
            refine wpQuiet_nil ?_
            intro _ hw'
            obtain ⟨n1, hw''⟩ := hw'
            subst hw''
            have HB7 : Hid (Below w.heap.size w n1.w) := HB.out.trans (n1.below.mono HB.out.size)
            generalize n1.w = u7 at *
            go_wp2
            go_ret
            exact ⟨by rw [HN.out]; rfl, HB7.out⟩
          · have HN : Hid (SpanMath.right ds = false) := HNo.out (j + 1) hkn (by rw [HOk.out, HK.out]; rfl)
            have b1 : decide (d.f < 1) = false := decide_eq_false (by omega)
            have b2 : decide (1099511627775 < d.t) = true := decide_eq_true h2
            go_upto_region 4 with (fail)
            (try simp only [Act.put])
            refine wp_region_grow (by kernel_rfl) (by kernel_rfl) ?_
            repeat (go_big_quiet_step (fail))
            refine wpQuiet_nil ?_
            intro _ hw'
            obtain ⟨n1, hw''⟩ := hw'
            subst hw''
            have HB7 : Hid (Below w.heap.size w n1.w) := HB.out.trans (n1.below.mono HB.out.size)
            generalize n1.w = u7 at *
            go_wp2
            go_ret
            exact ⟨by rw [HN.out]; rfl, HB7.out⟩
          · have HN : Hid (SpanMath.right ds = false) := HNo.out (j + 1) hkn (by rw [HOk.out, HK.out]; rfl)
            have b1 : decide (d.f < 1) = false := decide_eq_false (by omega)
            have b2 : decide (1099511627775 < d.t) = false := decide_eq_false (by omega)
            have b3 : decide (d.t < d.f) = true := decide_eq_true h3
            go_upto_region 4 with (fail)
            (try simp only [Act.put])
            refine wp_region_grow (by kernel_rfl) (by kernel_rfl) ?_
            repeat (go_big_quiet_step (fail))
            refine wpQuiet_nil ?_
            intro _ hw'
            obtain ⟨n1, hw''⟩ := hw'
            subst hw''
            have HB7 : Hid (Below w.heap.size w n1.w) := HB.out.trans (n1.below.mono HB.out.size)
            generalize n1.w = u7 at *
            go_wp2
            go_ret
            exact ⟨by rw [HN.out]; rfl, HB7.out⟩
          · have b1 : decide (d.f < 1) = false := decide_eq_false (by omega)
            have b2 : decide (1099511627775 < d.t) = false := decide_eq_false (by omega)
            have b3 : decide (d.t < d.f) = false := decide_eq_false (by omega)
            have b4 : decide ((0 : Int) < ((j + 1 : Nat) : Int)) = true := decide_eq_true hj0
            have ef : IntKind.i64.wrap (d.f - 1) = d.f - 1 := by rw [IntKind.wrap_i64]; omega
            by_cases hl : dp.t < d.f - 1
            · have HN : Hid (SpanMath.rightTo ds (j + 1 + 1) = true) := by show _ = _; rw [HS.out (j + 1), HT.out, HOk.out, HK.out]; simp [hl]
              have hl2 : decide (d.f - 1 ≤ dp.t) = false := decide_eq_false (by omega)
              go_upto_region 4 with (fail)
              (try simp only [Act.put])
              refine wp_region_grow (by kernel_rfl) (by kernel_rfl) ?_
              repeat (go_big_quiet_step (fail))
              refine wpQuiet_nil ?_
              intro _ hw'
              obtain ⟨n1, hw''⟩ := hw'
              subst hw''
              have HB7 : Hid (Below w.heap.size w n1.w) := HB.out.trans (n1.below.mono HB.out.size)
              clear HB p0' p1' q0' q1' HK h1 h2 h3 hfk hfj hl hl2 ef
              generalize n1.w = u7 at *
              clear hne n1
              go_wp2
              go_roundw
              case rel => exact ⟨j + 1 + 1, by omega, by go_num, HN.out, HB7.out⟩
              case measure => simp [intOf]; omega
            · have HN : Hid (SpanMath.right ds = false) := HNo.out (j + 1) hkn (by rw [HOk.out, HK.out]; simp [hl])
              have hl2 : decide (d.f - 1 ≤ dp.t) = true := decide_eq_true (by omega)
              go_upto_region 4 with (fail)
              (try simp only [Act.put])
              refine wp_region_grow (by kernel_rfl) (by kernel_rfl) ?_
              repeat (go_big_quiet_step (fail))
              refine wpQuiet_nil ?_
              intro _ hw'
              obtain ⟨n1, hw''⟩ := hw'
              subst hw''
              have HB7 : Hid (Below w.heap.size w n1.w) := HB.out.trans (n1.below.mono HB.out.size)
              generalize n1.w = u7 at *
              go_wp2
              go_ret
              exact ⟨by rw [HN.out]; rfl, HB7.out⟩
      · have hkk : k = n := by omega
        have hdk : decide ((k : Int) < (n : Int)) = false := by simp; omega
        have HN : Hid (SpanMath.right ds = true) := by show _ = _; rw [HA.out, ← hkk]; exact HT.out
        clear hkk
        go_wp2
        go_ret
        exact ⟨by rw [HN.out]; rfl, HB.out⟩
end Go.Proofs.Ytnkjfenibgiaaaa
