/-
  Walk of slices.Equal of dots.
-/
import Derived.Test.YtehaeepihjookaaDotOwn
import Derived.Test.YtehaeepihjookaaDotCmp
import Derived.Test.YtehaeepihjookaaFnDotG
import Derived.Test.YtehaeepihjookaaGrowKit
import Derived.Deep.Cut
namespace Go.Proofs.Ytehaeepihjookaa
open Go.RowKit NumMath
open DotMath (Dt)
set_option maxRecDepth 100000
set_option linter.unusedVariables false
set_option linter.unusedSimpArgs false

def sameD (xs ys : List Dt) : Bool := decide (xs.map DotMath.pr = ys.map DotMath.pr)
theorem pr_inj {a b : Dt} (h : DotMath.pr a = DotMath.pr b) : a = b := by
  have := congrArg DotMath.up h
  simpa [DotMath.up_pr] using this
theorem sameD_iff {xs ys : List Dt} : sameD xs ys = true ↔ xs = ys := by
  unfold sameD
  rw [decide_eq_true_eq]
  constructor
  · intro h
    have e := congrArg (List.map DotMath.up) h
    simpa [List.map_map, Function.comp_def, DotMath.up_pr] using e
  · rintro rfl; rfl
theorem sameD_len {xs ys : List Dt} (h : xs.length ≠ ys.length) : sameD xs ys = false := by
  cases hq : sameD xs ys with
  | false => rfl
  | true => exact absurd (congrArg List.length (sameD_iff.1 hq)) h
theorem sameD_at {xs ys : List Dt} {k : Nat} (h : xs[k]?.getD DotMath.zero ≠ ys[k]?.getD DotMath.zero) : sameD xs ys = false := by
  cases hq : sameD xs ys with
  | false => rfl
  | true => exact absurd (by rw [sameD_iff.1 hq]) h
theorem sameD_all {xs ys : List Dt} (hl : xs.length = ys.length) (h : ∀ j, j < xs.length → xs[j]?.getD DotMath.zero = ys[j]?.getD DotMath.zero) : sameD xs ys = true := by
  rw [sameD_iff]
  refine List.ext_getElem hl (fun i h1 h2 => ?_)
  have := h i h1
  simpa [h1, h2] using this

set_option maxHeartbeats 4000000 in
theorem equalDots_any (a1 a2 : Option Addr) (c1 c2 : Nat) (xs ys : List Dt) (w : World) (h1 : DRow w a1 xs) (h2 : DRow w a2 ys) (hc1 : xs.length ≤ c1) (hc2 : ys.length ≤ c2) (hm1 : c1 ≤ maxLen) (hm2 : c2 ≤ maxLen) :
    Calls Try.prog 42 #[.slice a1 xs.length c1, .slice a2 ys.length c2] w fun e w' => e = .returned (.bool (sameD xs ys)) ∧ Below w.heap.size w w' := by
  unfold maxLen at hm1 hm2
  by_cases hl : xs.length = ys.length
  · by_cases h0 : xs.length = 0
    · have e1 : xs = [] := List.eq_nil_of_length_eq_zero h0
      have e2 : ys = [] := List.eq_nil_of_length_eq_zero (by omega)
      subst e1 e2
      have HS : Hid (sameD [] [] = true) := rfl
      rw [HS.out]
      clear h1 h2
      go_enter Try.func42, Try.ntmps42
      go_wp2
      refine wp_loop_rounds 1 ?_
      rw [rounds_succ]
      go_wp2
      go_ret
      exact ⟨rfl, Below.refl _ _⟩
    · obtain ⟨b1, o1, rfl, _⟩ := h1.at (by omega)
      obtain ⟨b2, o2, rfl, _⟩ := h2.at (by omega)
      have HC1 : Hid (∀ k, k < xs.length → ∀ w', Below w.heap.size w w' → _) := fun k hk w' hB => DRow.cells (h1.later hB) hk
      have HC2 : Hid (∀ k, k < xs.length → ∀ w', Below w.heap.size w w' → _) := fun k hk w' hB => DRow.cells (h2.later hB) (i := k) (by omega)
      have HAll : Hid ((∀ j, j < xs.length → xs[j]?.getD DotMath.zero = ys[j]?.getD DotMath.zero) → sameD xs ys = true) := sameD_all hl
      have HAt : Hid (∀ k, xs[k]?.getD DotMath.zero ≠ ys[k]?.getD DotMath.zero → sameD xs ys = false) := fun k h => sameD_at h
      rw [← hl] at hc2 ⊢
      obtain ⟨n, hn⟩ : ∃ n, n = xs.length := ⟨_, rfl⟩
      rw [← hn] at hc1 hc2 HC1 HC2 HAll ⊢
      generalize sameD xs ys = S at *
      clear hn h1 h2 h0 hl
      go_enter Try.func42, Try.ntmps42
      go_wp2
      go_loopw [13] (fun i wr => ∃ k : Nat, k ≤ n ∧ i = .int .i64 k ∧ Hid (∀ j, j < k → xs[j]?.getD DotMath.zero = ys[j]?.getD DotMath.zero) ∧ Below w.heap.size w wr) (fun i _ => n - (intOf i).toNat)
      case atStart => exact ⟨0, by omega, rfl, fun j hj => by omega, Below.refl _ _⟩
      case round =>
        obtain ⟨k, hk, rfl, HK, hB⟩ := hrel
        have HB : Hid (Below w.heap.size w wr) := hB
        clear hB
        by_cases hkn : k < n
        · have hki : (k : Int) < (n : Int) := by omega
          have hkc1 : (k : Int) < (c1 : Int) := by omega
          have hkc2 : (k : Int) < (c2 : Int) := by omega
          obtain ⟨p0, p1⟩ := HC1.out k hkn wr HB.out
          obtain ⟨q0, q1⟩ := HC2.out k hkn wr HB.out
          obtain ⟨x, hx⟩ : ∃ x, x = xs[k]?.getD DotMath.zero := ⟨_, rfl⟩
          obtain ⟨y, hy⟩ : ∃ y, y = ys[k]?.getD DotMath.zero := ⟨_, rfl⟩
          have HNo : Hid (x ≠ y → S = false) := fun h => HAt.out k (by rw [← hx, ← hy]; exact h)
          have HYes : Hid (x = y → ∀ j, j < k + 1 → xs[j]?.getD DotMath.zero = ys[j]?.getD DotMath.zero) := fun h j hj => by
            by_cases e : j = k
            · rw [e, ← hx, ← hy]; exact h
            · exact HK.out j (by omega)
          rw [← hx] at p0 p1
          rw [← hy] at q0 q1
          clear hx hy HK
          have hne : Nonempty (Grown1 wr) := ⟨⟨wr, Below.refl _ _⟩⟩
          have p0' := fun u : Grown1 wr => grown1_cell p0 u
          have p1' := fun u : Grown1 wr => grown1_cell p1 u
          have q0' := fun u : Grown1 wr => grown1_cell q0 u
          have q1' := fun u : Grown1 wr => grown1_cell q1 u
          clear p0 p1 q0 q1
          by_cases hxy : x = y
          · have HK2 : Hid _ := HYes.out hxy
            subst hxy
            clear HNo HYes
            go_upto_region 6 with (fail)
            (try simp only [Act.put])
            refine wp_region_grow (by kernel_rfl) (by kernel_rfl) ?_
            repeat (go_big_quiet_step (fail))
            refine wpQuiet_nil ?_
            intro _ hw'
            obtain ⟨n1, hw''⟩ := hw'
            subst hw''
            have HB7 : Hid (Below w.heap.size w n1.w) := HB.out.trans (n1.below.mono HB.out.size)
            clear p0' p1' q0' q1' HB
            generalize n1.w = u7 at *
            clear hne n1
            go_wp2
            go_roundw
            case rel => exact ⟨k + 1, by omega, by go_num, HK2, HB7.out⟩
            case measure => simp [intOf]; omega
          · have HSf : Hid (S = false) := HNo.out hxy
            have HNe : Hid _ := dne_cases hxy
            clear HNo HYes hxy HAll HAt
            go_upto_region 6 with (fail)
            rcases HNe.out with e1 | ⟨e1, e2⟩
            all_goals
              (try simp only [Act.put])
              refine wp_region_grow (by kernel_rfl) (by kernel_rfl) ?_
              repeat (go_big_quiet_step (fail))
              refine wpQuiet_nil ?_
              intro _ hw'
              obtain ⟨n1, hw''⟩ := hw'
              subst hw''
              have HB7 : Hid (Below w.heap.size w n1.w) := HB.out.trans (n1.below.mono HB.out.size)
              clear p0' p1' q0' q1' HB
              generalize n1.w = u7 at *
              clear hne n1
              go_wp2
              go_ret
              exact ⟨by rw [HSf.out]; rfl, HB7.out⟩
        · have hkk : k = n := by omega
          have hdk : decide ((k : Int) < (n : Int)) = false := by simp; omega
          have HSt : Hid (S = true) := HAll.out (fun j hj => HK.out j (by omega))
          go_wp2
          go_ret
          exact ⟨by rw [HSt.out]; rfl, HB.out⟩
  · have HS : Hid (sameD xs ys = false) := sameD_len hl
    rw [HS.out]
    generalize xs.length = n1 at *
    generalize ys.length = n2 at *
    have hnn : ((n1 : Int) == (n2 : Int)) = false := by simp; omega
    have hnn2 : ((n1 : Int) != (n2 : Int)) = true := by simp; omega
    clear h1 h2 hl
    go_enter Try.func42, Try.ntmps42
    go_wp2
    go_ret
    exact ⟨rfl, Below.refl _ _⟩
end Go.Proofs.Ytehaeepihjookaa
