/-
  Walk of newsreelref1.SameSpan: of two rows of the same ranges it says yes.
-/
import Derived.Test.YtnkjfenibgiaaaaRngOwn
import Derived.Test.YtnkjfenibgiaaaaGrowKit
import Derived.Deep.Cut
namespace Go.Proofs.Ytnkjfenibgiaaaa
open Go.RowKit NumMath
open SpanMath (Rg)
set_option maxRecDepth 100000
set_option linter.unusedVariables false
set_option linter.unusedSimpArgs false

set_option maxHeartbeats 4000000 in
theorem sameSpan_any (a1 a2 : Option Addr) (c1 c2 : Nat) (ds : List Rg) (w : World) (h1 : GRow w a1 ds) (h2 : GRow w a2 ds) (hc1 : ds.length ≤ c1) (hc2 : ds.length ≤ c2) (hm1 : c1 ≤ maxLen) (hm2 : c2 ≤ maxLen) :
    Calls Try.prog 18 #[.slice a1 ds.length c1, .slice a2 ds.length c2] w fun e w' => e = .returned (.bool true) ∧ Below w.heap.size w w' := by
  unfold maxLen at hm1 hm2
  by_cases h0 : ds.length = 0
  · rw [h0]
    go_enter Try.func18, Try.ntmps18
    go_wp2
    refine wp_loop_rounds 1 ?_
    rw [rounds_succ]
    go_wp2
    go_ret
    exact ⟨rfl, Below.refl _ _⟩
  · obtain ⟨b1, o1, rfl, k1⟩ := h1.at (by omega)
    obtain ⟨b2, o2, rfl, k2⟩ := h2.at (by omega)
    have HC1 : Hid (∀ k, k < ds.length → ∀ w', Below w.heap.size w w' → _) := fun k hk w' hB => GRow.cells (h1.later hB) hk
    have HC2 : Hid (∀ k, k < ds.length → ∀ w', Below w.heap.size w w' → _) := fun k hk w' hB => GRow.cells (h2.later hB) hk
    obtain ⟨n, hn⟩ : ∃ n, n = ds.length := ⟨_, rfl⟩
    rw [← hn] at hc1 hc2 HC1 HC2 ⊢
    clear hn h1 h2 k1 k2 h0
    go_enter Try.func18, Try.ntmps18
    go_wp2
    go_loopw [5] (fun i wr => ∃ k : Nat, k ≤ n ∧ i = .int .i64 k ∧ Below w.heap.size w wr) (fun i _ => n - (intOf i).toNat)
    case atStart => exact ⟨0, by omega, rfl, Below.refl _ _⟩
    case round =>
      obtain ⟨k, hk, rfl, hB⟩ := hrel
      have HB : Hid (Below w.heap.size w wr) := hB
      clear hB
      by_cases hkn : k < n
      · have hki : (k : Int) < (n : Int) := by omega
        have hkc1 : (k : Int) < (c1 : Int) := by omega
        have hkc2 : (k : Int) < (c2 : Int) := by omega
        obtain ⟨p0, p1⟩ := HC1.out k hkn wr HB.out
        obtain ⟨q0, q1⟩ := HC2.out k hkn wr HB.out
        generalize ds[k]?.getD SpanMath.zero = d at *
        have hne : Nonempty (Grown1 wr) := ⟨⟨wr, Below.refl _ _⟩⟩
        have p0' := fun u : Grown1 wr => grown1_cell p0 u
        have p1' := fun u : Grown1 wr => grown1_cell p1 u
        have q0' := fun u : Grown1 wr => grown1_cell q0 u
        have q1' := fun u : Grown1 wr => grown1_cell q1 u
        clear p0 p1 q0 q1
        go_upto_region 6 with (fail)
        (try simp only [Act.put])
        refine wp_region_grow (by kernel_rfl) (by kernel_rfl) ?_
        repeat (go_big_quiet_step (fail))
        refine wpQuiet_nil ?_
        intro _ hw'
        obtain ⟨n1, hw''⟩ := hw'
        subst hw''
        have HB7 : Hid (Below w.heap.size w n1.w) := HB.out.trans (n1.below.mono HB.out.size)
        clear p0' p1' q0' q1' HB
        generalize n1.w = u7 at *
        clear hne n1
        go_wp2
        go_roundw
        case rel => exact ⟨k + 1, by omega, by go_num, HB7.out⟩
        case measure => simp [intOf]; omega
      · have hdk : decide ((k : Int) < (n : Int)) = false := by simp; omega
        go_wp2
        go_ret
        exact ⟨rfl, HB.out⟩
end Go.Proofs.Ytnkjfenibgiaaaa
