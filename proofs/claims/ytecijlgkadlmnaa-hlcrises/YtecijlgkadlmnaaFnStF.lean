/-
  Walks of stamp.Max, newsreelref1.StampMax.
-/
import Derived.Test.YtecijlgkadlmnaaStRow
import Derived.Test.YtecijlgkadlmnaaFnStB
import Derived.Test.YtecijlgkadlmnaaGrowKit
namespace Go.Proofs.Ytecijlgkadlmnaa
open Go.RowKit NumMath
open StMath (St)
set_option maxRecDepth 100000
set_option linter.unusedVariables false
set_option linter.unusedSimpArgs false

set_option maxRecDepth 100000 in
set_option maxHeartbeats 4000000 in
theorem stMax_any (a : Option Addr) (ss : List St) (cap : Nat) (w : World) (hr : SRow w a ss) (hc : ss.length ≤ cap) (hm : cap ≤ maxLen) :
    Calls Try.prog 34 #[.slice a ss.length cap] w fun e w' => e = .returned (stV (StMath.maxS ss)) ∧ Below w.heap.size w w' := by
  unfold maxLen at hm
  have HA0 : Hid (StAt (w.alloc (.cells #[.int .i64 0, .int .i64 0, .int .i64 0] 32)) w.heap.size StMath.zero) := StAt.new w StMath.zero rfl
  have HB0 : Hid (Below w.heap.size w (w.alloc (.cells #[.int .i64 0, .int .i64 0, .int .i64 0] 32))) := (Below.refl _ _).alloc (Nat.le_refl _) _
  cases ss with
  | nil =>
    go_enter Try.func34, Try.ntmps34
    go_wp2_with (refine wpList_store_st rfl (.tmp 2) (.tmp 9) rfl w.heap.size StMath.zero StMath.zero rfl rfl HA0.out ?_)
    exact ret_st1 w.heap.size StMath.zero rfl rfl (StAt.row HA0.out) rfl ⟨rfl, below_setRow HB0.out (Nat.le_refl _) _⟩
  | cons s ss =>
    obtain ⟨b, off, rfl, hcell⟩ := hr.at (by simp)
    have HC0 : Hid ((w.alloc (.cells #[.int .i64 0, .int .i64 0, .int .i64 0] 32)).rangeAt b off (stL s)) := range_later (by simpa using hcell 0 (by simp)) ((Below.refl _ _).alloc (Nat.le_refl _) _)
    have HA3 : Hid (StAt ((w.alloc (.cells #[.int .i64 0, .int .i64 0, .int .i64 0] 32)).alloc (.cells #[.int .i64 0, .int .i64 0, .int .i64 0] 32)) (w.heap.size + 1) StMath.zero) := StAt.new _ StMath.zero (by simp)
    have HCk : Hid (∀ k, k < ss.length → w.rangeAt b (off + 3 + k * 3) (stL (ss[k]?.getD StMath.zero))) := by
      intro k hk
      have := hcell (k + 1) (by simp; omega)
      rw [show off + 3 + k * 3 = off + (k + 1) * 3 by omega]
      simpa using this
    obtain ⟨n, hn⟩ : ∃ n, n = ss.length := ⟨_, rfl⟩
    have HN : Hid (n = ss.length) := hn
    rw [List.length_cons, ← hn] at hc ⊢
    clear hcell hn hr
    go_enter Try.func34, Try.ntmps34
    have h1 : 1 ≤ cap := by omega
    have i1 : (1 : Int) ≤ (cap : Int) := by omega
    have HM : Hid (StMath.maxS (s :: ss) = ss.foldl StMath.up s) := rfl
    have hcc : (n = 0 ∧ cap = 1) ∨ ¬ cap = 1 := by omega
    rcases hcc with ⟨rfl, rfl⟩ | hc1
    · have HE : Hid (ss = []) := List.eq_nil_of_length_eq_zero HN.out.symm
      have HG3 : Hid (StAt (((w.alloc (.cells #[.int .i64 0, .int .i64 0, .int .i64 0] 32)).alloc (.cells #[.int .i64 0, .int .i64 0, .int .i64 0] 32)).setRow (w.heap.size + 1) (stL s).toArray) (w.heap.size + 1) s) := StAt.row HA3.out
      have HZ3 : Hid (StAt (((w.alloc (.cells #[.int .i64 0, .int .i64 0, .int .i64 0] 32)).alloc (.cells #[.int .i64 0, .int .i64 0, .int .i64 0] 32)).setRow (w.heap.size + 1) (stL s).toArray) w.heap.size StMath.zero) := StAt.row_other (HA0.out.alloc _) _ (by omega)
      have HB3 : Hid (Below w.heap.size w (((w.alloc (.cells #[.int .i64 0, .int .i64 0, .int .i64 0] 32)).alloc (.cells #[.int .i64 0, .int .i64 0, .int .i64 0] 32)).setRow (w.heap.size + 1) (stL s).toArray)) := below_setRow (HB0.out.alloc (by simp) _) (by omega) _
      go_wp2_with (first
        | refine wpList_load_mid rfl 32 (.tmp 11) rfl b off rfl (stL s) _ HC0.out Try.underlying32 rfl sizeSt ?_
        | refine wpList_store_st rfl (.tmp 3) (.tmp 12) rfl (w.heap.size + 1) StMath.zero s rfl rfl HA3.out ?_)
      refine wp_loop_rounds 1 ?_
      rw [rounds_succ]
      go_wp2_with (first
        | refine wpList_load_mid rfl 32 (.tmp 3) rfl (w.heap.size + 1) 0 rfl (stL s) _ (range_of_arr HG3.out.arr) Try.underlying32 rfl sizeSt ?_
        | refine wpList_store_st rfl (.tmp 2) (.tmp 25) rfl w.heap.size StMath.zero s rfl rfl HZ3.out ?_)
      exact ret_st1 w.heap.size s rfl rfl (StAt.row HZ3.out) rfl ⟨by rw [HM.out, HE.out]; rfl, below_setRow HB3.out (Nat.le_refl _) _⟩
    go_wp2_with (first
      | refine wpList_load_mid rfl 32 (.tmp 11) rfl b off rfl (stL s) _ HC0.out Try.underlying32 rfl sizeSt ?_
      | refine wpList_store_st rfl (.tmp 3) (.tmp 12) rfl (w.heap.size + 1) StMath.zero s rfl rfl HA3.out ?_)
    have HG3 : Hid (StAt (((w.alloc (.cells #[.int .i64 0, .int .i64 0, .int .i64 0] 32)).alloc (.cells #[.int .i64 0, .int .i64 0, .int .i64 0] 32)).setRow (w.heap.size + 1) (stL s).toArray) (w.heap.size + 1) s) := StAt.row HA3.out
    have HZ3 : Hid (StAt (((w.alloc (.cells #[.int .i64 0, .int .i64 0, .int .i64 0] 32)).alloc (.cells #[.int .i64 0, .int .i64 0, .int .i64 0] 32)).setRow (w.heap.size + 1) (stL s).toArray) w.heap.size StMath.zero) := StAt.row_other (HA0.out.alloc _) _ (by omega)
    have HB3 : Hid (Below w.heap.size w (((w.alloc (.cells #[.int .i64 0, .int .i64 0, .int .i64 0] 32)).alloc (.cells #[.int .i64 0, .int .i64 0, .int .i64 0] 32)).setRow (w.heap.size + 1) (stL s).toArray)) := below_setRow (HB0.out.alloc (by simp) _) (by omega) _
    clear HA0 HB0 HA3 HC0
    generalize ((w.alloc (.cells #[.int .i64 0, .int .i64 0, .int .i64 0] 32)).alloc (.cells #[.int .i64 0, .int .i64 0, .int .i64 0] 32)).setRow (w.heap.size + 1) (stL s).toArray = w3 at *
    go_loopw [16] (fun i wr => ∃ k : Nat, k ≤ n ∧ i = .int .i64 k ∧ StAt wr (w.heap.size + 1) ((ss.take k).foldl StMath.up s) ∧ StAt wr w.heap.size StMath.zero ∧ Below w.heap.size w wr) (fun i _ => n - (intOf i).toNat)
    case atStart => exact ⟨0, by omega, rfl, HG3.out, HZ3.out, HB3.out⟩
    case round =>
      obtain ⟨k, hk, rfl, hG, hZ, hB⟩ := hrel
      have HB : Hid (Below w.heap.size w wr) := hB
      have hsz := hB.size
      have hlt := hG.lt
      clear HG3 HZ3 HB3 hB
      by_cases hkn : k < n
      · have HUP : Hid ((ss.take (k + 1)).foldl StMath.up s = StMath.up ((ss.take k).foldl StMath.up s) (ss[k]?.getD StMath.zero)) := StMath.fold_take ss s k (by have := HN.out; omega)
        have HX : Hid (wr.rangeAt b (off + 3 + k * 3) (stL (ss[k]?.getD StMath.zero))) := range_later (HCk.out k (by have := HN.out; omega)) HB.out
        generalize (ss.take k).foldl StMath.up s = g at *
        generalize ss[k]?.getD StMath.zero = x at *
        have HXn : Hid (StAt (wr.alloc (.cells #[.int .i64 0, .int .i64 0, .int .i64 0] 32)) wr.heap.size StMath.zero) := StAt.new wr StMath.zero rfl
        have HX5 : Hid (StAt ((wr.alloc (.cells #[.int .i64 0, .int .i64 0, .int .i64 0] 32)).setRow wr.heap.size (stL x).toArray) wr.heap.size x) := StAt.row HXn.out
        have HG5 : Hid (StAt ((wr.alloc (.cells #[.int .i64 0, .int .i64 0, .int .i64 0] 32)).setRow wr.heap.size (stL x).toArray) (w.heap.size + 1) g) := StAt.row_other (hG.alloc _) _ (by omega)
        have HZ5 : Hid (StAt ((wr.alloc (.cells #[.int .i64 0, .int .i64 0, .int .i64 0] 32)).setRow wr.heap.size (stL x).toArray) w.heap.size StMath.zero) := StAt.row_other (hZ.alloc _) _ (by omega)
        have HB5 : Hid (Below w.heap.size w ((wr.alloc (.cells #[.int .i64 0, .int .i64 0, .int .i64 0] 32)).setRow wr.heap.size (stL x).toArray)) := below_setRow (HB.out.alloc hsz _) hsz _
        have HL : Hid (∀ w, _) := fun w => stLess_any g x w
        go_wp2_with (first
          | refine wpList_load_mid rfl 32 (.tmp 18) rfl b (off + 3 + k * 3) rfl (stL x) _ HX.out Try.underlying32 rfl sizeSt ?_
          | refine wpList_store_st rfl (.tmp 5) (.tmp 19) rfl wr.heap.size StMath.zero x rfl rfl HXn.out ?_
          | refine wpList_load_mid rfl 32 (.tmp 3) rfl (w.heap.size + 1) 0 rfl (stL g) _ (range_of_arr HG5.out.arr) Try.underlying32 rfl sizeSt ?_
          | refine wpList_load_mid rfl 32 (.tmp 5) rfl wr.heap.size 0 rfl (stL x) _ (range_of_arr HX5.out.arr) Try.underlying32 rfl sizeSt ?_)
        refine Calls.mono (HL.out _) ?_
        rintro e w6 ⟨rfl, hb6⟩
        have HX6 : Hid _ := HX5.out.later hb6 HX5.out.lt
        have HG6 : Hid _ := HG5.out.later hb6 HG5.out.lt
        have HZ6 : Hid _ := HZ5.out.later hb6 HZ5.out.lt
        have HB6 : Hid _ := HB5.out.trans (hb6.mono HB5.out.size)
        clear hb6 HX5 HG5 HZ5 HB5 HXn HX hG hZ
        cases hq : StMath.less g x with
        | true =>
          have HU : Hid (StMath.up g x = x) := by unfold Hid StMath.up; rw [if_pos hq]
          clear hq
          go_wp2_with (first
            | refine wpList_load_mid rfl 32 (.tmp 5) rfl wr.heap.size 0 rfl (stL x) _ (range_of_arr HX6.out.arr) Try.underlying32 rfl sizeSt ?_
            | refine wpList_store_st rfl (.tmp 3) (.tmp 23) rfl (w.heap.size + 1) g x rfl rfl HG6.out ?_)
          go_roundw
          case rel => exact ⟨k + 1, by omega, by go_num, by rw [HUP.out, HU.out]; exact StAt.row HG6.out, StAt.row_other HZ6.out _ (by omega), below_setRow HB6.out (by omega) _⟩
          case measure => simp [intOf]; omega
        | false =>
          have HU : Hid (StMath.up g x = g) := by unfold Hid StMath.up; rw [hq]; rfl
          clear hq
          go_wp2
          go_roundw
          case rel => exact ⟨k + 1, by omega, by go_num, by rw [HUP.out, HU.out]; exact HG6.out, HZ6.out, HB6.out⟩
          case measure => simp [intOf]; omega
      · have hkn' : k = n := by omega
        have HE : Hid ((ss.take k).foldl StMath.up s = StMath.maxS (s :: ss)) := by
          show _ = _
          rw [HM.out, hkn', HN.out, List.take_of_length_le (Nat.le_refl _)]
        clear hkn'
        rw [HE.out] at hG
        obtain ⟨M, hM⟩ : ∃ M, M = StMath.maxS (s :: ss) := ⟨_, rfl⟩
        rw [← hM] at hG
        have HMM : Hid _ := hM
        clear hM
        go_wp2_with (first
          | refine wpList_load_mid rfl 32 (.tmp 3) rfl (w.heap.size + 1) 0 rfl (stL M) _ (range_of_arr hG.arr) Try.underlying32 rfl sizeSt ?_
          | refine wpList_store_st rfl (.tmp 2) (.tmp 25) rfl w.heap.size StMath.zero M rfl rfl hZ ?_)
        exact ret_st1 w.heap.size M rfl rfl (StAt.row hZ) rfl ⟨by rw [HMM.out], below_setRow HB.out (Nat.le_refl _) _⟩

theorem max_take (ss : List St) (k : Nat) (h : k < ss.length) : StMath.maxS (ss.take (k + 1)) = if k = 0 then ss[k]?.getD StMath.zero else StMath.up (StMath.maxS (ss.take k)) (ss[k]?.getD StMath.zero) := by
  cases ss with
  | nil => simp at h
  | cons s ss =>
    cases k with
    | zero => simp [StMath.maxS]
    | succ k =>
      simp only [List.take_succ_cons, StMath.maxS]
      rw [if_neg (by omega), StMath.fold_take ss s k (by simpa using h)]
      simp

set_option maxRecDepth 100000 in
set_option maxHeartbeats 4000000 in
theorem refMax_any (a : Option Addr) (ss : List St) (cap : Nat) (w : World) (hr : SRow w a ss) (hc : ss.length ≤ cap) (hm : cap ≤ maxLen) :
    Calls Try.prog 14 #[.slice a ss.length cap] w fun e w' => e = .returned (stV (StMath.maxS ss)) ∧ Below w.heap.size w w' := by
  unfold maxLen at hm
  have HA3 : Hid (StAt ((w.alloc (.cells #[.int .i64 0, .int .i64 0, .int .i64 0] 32)).alloc (.cells #[.int .i64 0, .int .i64 0, .int .i64 0] 32)) (w.heap.size + 1) StMath.zero) := StAt.new _ StMath.zero (by simp)
  have HA0 : Hid (StAt ((w.alloc (.cells #[.int .i64 0, .int .i64 0, .int .i64 0] 32)).alloc (.cells #[.int .i64 0, .int .i64 0, .int .i64 0] 32)) w.heap.size StMath.zero) := (StAt.new w StMath.zero rfl).alloc _
  have HB0 : Hid (Below w.heap.size w ((w.alloc (.cells #[.int .i64 0, .int .i64 0, .int .i64 0] 32)).alloc (.cells #[.int .i64 0, .int .i64 0, .int .i64 0] 32))) := ((Below.refl _ _).alloc (Nat.le_refl _) _).alloc (by simp) _
  have HR : Hid _ := hr
  obtain ⟨n, hn⟩ : ∃ n, n = ss.length := ⟨_, rfl⟩
  have HN : Hid (n = ss.length) := hn
  rw [← hn] at hc ⊢
  clear hn hr
  go_enter Try.func14, Try.ntmps14
  go_wp2
  generalize (w.alloc (.cells #[.int .i64 0, .int .i64 0, .int .i64 0] 32)).alloc (.cells #[.int .i64 0, .int .i64 0, .int .i64 0] 32) = w3 at *
  go_loopw [4] (fun i wr => ∃ k : Nat, k ≤ n ∧ i = .int .i64 k ∧ StAt wr (w.heap.size + 1) (StMath.maxS (ss.take k)) ∧ StAt wr w.heap.size StMath.zero ∧ Below w.heap.size w wr) (fun i _ => n - (intOf i).toNat)
  case atStart => exact ⟨0, by omega, rfl, HA3.out, HA0.out, HB0.out⟩
  case round =>
    obtain ⟨k, hk, rfl, hG, hZ, hB⟩ := hrel
    have HB : Hid (Below w.heap.size w wr) := hB
    have hsz := hB.size
    have hlt := hG.lt
    clear HA3 HA0 HB0 hB
    by_cases hkn : k < n
    · have HUP : Hid _ := max_take ss k (by have := HN.out; omega)
      obtain ⟨b, off, rfl, hcell⟩ := SRow.at (SRow.later HR.out HB.out) (by have := HN.out; omega)
      have hX := hcell k (by have := HN.out; omega)
      clear hcell
      generalize StMath.maxS (ss.take k) = g at *
      generalize ss[k]?.getD StMath.zero = x at *
      have HX : Hid (wr.rangeAt b (off + k * 3) (stL x)) := hX
      have hne : Nonempty (Grown1 wr) := ⟨⟨wr, Below.refl _ _⟩⟩
      by_cases hk0 : k = 0
      · rw [if_pos hk0] at HUP
        have hkb : ((k : Int) == 0) = true := by simp [hk0]
        clear hX hk0
        go_wp2_with fail
        refine wp_region_grow (by kernel_rfl) (by kernel_rfl) ?_
        repeat (go_big_quiet_step (fail))
        refine wpQuiet_nil ?_
        intro _ hw'
        obtain ⟨n1, hw''⟩ := hw'
        subst hw''
        have HB1 : Hid _ := HB.out.trans (n1.below.mono HB.out.size)
        have HG1 : Hid _ := hG.later n1.below hG.lt
        have HZ1 : Hid _ := hZ.later n1.below hZ.lt
        have HX1 : Hid (n1.w.rangeAt b (off + k * 3) (stL x)) := range_later HX.out n1.below
        generalize n1.w = w5 at *
        clear hne
        go_wp2_with (first
          | refine wpList_load_mid rfl 32 (.tmp 23) rfl b (off + k * 3) rfl (stL x) _ HX1.out Try.underlying32 rfl sizeSt ?_
          | refine wpList_store_st rfl (.tmp 3) (.tmp 24) rfl (w.heap.size + 1) g x rfl rfl HG1.out ?_)
        go_roundw
        case rel => exact ⟨k + 1, by omega, by go_num, by rw [HUP.out]; exact StAt.row HG1.out, StAt.row_other HZ1.out _ (by omega), below_setRow HB1.out (by omega) _⟩
        case measure => simp [intOf]; omega
      · rw [if_neg hk0] at HUP
        have hkb : ((k : Int) == 0) = false := by simp [hk0]
        have hkn2 : (k : Int) < (n : Int) := by omega
        have HL : Hid (∀ m : Grown1 wr, _) := fun m => refLess_any g x m.w
        unfold stV at HL
        obtain ⟨c0, c1, c2⟩ := hG.cells
        obtain ⟨d0, d1, d2⟩ := range_cells hX
        have c0' := fun m : Grown1 wr => grown1_cell c0 m
        have c1' := fun m : Grown1 wr => grown1_cell c1 m
        have c2' := fun m : Grown1 wr => grown1_cell c2 m
        have d0' := fun m : Grown1 wr => grown1_cell d0 m
        have d1' := fun m : Grown1 wr => grown1_cell d1 m
        have d2' := fun m : Grown1 wr => grown1_cell d2 m
        clear hX hk0 c0 c1 c2 d0 d1 d2
        cases hq : StMath.less g x with
        | true =>
          have HU : Hid (StMath.up g x = x) := by unfold Hid StMath.up; rw [if_pos hq]
          rw [hq] at HL
          clear hq
          go_wp2_with fail
          refine wp_region_grow (by kernel_rfl) (by kernel_rfl) ?_
          repeat (go_big_quiet_step (first | with_reducible exact grown1_call _ (HL.out _)))
          refine wpQuiet_nil ?_
          intro _ hw'
          obtain ⟨n1, hw''⟩ := hw'
          subst hw''
          have HB1 : Hid _ := HB.out.trans (n1.below.mono HB.out.size)
          have HG1 : Hid _ := hG.later n1.below hG.lt
          have HZ1 : Hid _ := hZ.later n1.below hZ.lt
          have HX1 : Hid (n1.w.rangeAt b (off + k * 3) (stL x)) := range_later HX.out n1.below
          generalize n1.w = w5 at *
          clear hne
          clear c0' c1' c2' d0' d1' d2'
          go_wp2_with (first
            | refine wpList_load_mid rfl 32 (.tmp 23) rfl b (off + k * 3) rfl (stL x) _ HX1.out Try.underlying32 rfl sizeSt ?_
            | refine wpList_store_st rfl (.tmp 3) (.tmp 24) rfl (w.heap.size + 1) g x rfl rfl HG1.out ?_)
          go_roundw
          case rel => exact ⟨k + 1, by omega, by go_num, by rw [HUP.out, HU.out]; exact StAt.row HG1.out, StAt.row_other HZ1.out _ (by omega), below_setRow HB1.out (by omega) _⟩
          case measure => simp [intOf]; omega
        | false =>
          have HU : Hid (StMath.up g x = g) := by unfold Hid StMath.up; rw [hq]; rfl
          rw [hq] at HL
          clear hq
          go_wp2_with fail
          refine wp_region_grow (by kernel_rfl) (by kernel_rfl) ?_
          repeat (go_big_quiet_step (first | with_reducible exact grown1_call _ (HL.out _)))
          refine wpQuiet_nil ?_
          intro _ hw'
          obtain ⟨n1, hw''⟩ := hw'
          subst hw''
          have HB1 : Hid _ := HB.out.trans (n1.below.mono HB.out.size)
          have HG1 : Hid _ := hG.later n1.below hG.lt
          have HZ1 : Hid _ := hZ.later n1.below hZ.lt
          have HX1 : Hid (n1.w.rangeAt b (off + k * 3) (stL x)) := range_later HX.out n1.below
          generalize n1.w = w5 at *
          clear hne
          clear c0' c1' c2' d0' d1' d2'
          go_wp2
          go_roundw
          case rel => exact ⟨k + 1, by omega, by go_num, by rw [HUP.out, HU.out]; exact HG1.out, HZ1.out, HB1.out⟩
          case measure => simp [intOf]; omega
    · have hkn' : k = n := by omega
      have HE : Hid (StMath.maxS (ss.take k) = StMath.maxS ss) := by
        show _ = _
        rw [hkn', HN.out, List.take_of_length_le (Nat.le_refl _)]
      have hdk : decide ((k : Int) < (n : Int)) = false := by simp; omega
      clear hkn'
      obtain ⟨M, hM⟩ : ∃ M, M = StMath.maxS ss := ⟨_, rfl⟩
      rw [HE.out, ← hM] at hG
      have HMM : Hid _ := hM
      clear hM
      go_wp2_with (first
        | refine wpList_load_mid rfl 32 (.tmp 3) rfl (w.heap.size + 1) 0 rfl (stL M) _ (range_of_arr hG.arr) Try.underlying32 rfl sizeSt ?_
        | refine wpList_store_st rfl (.tmp 2) (.tmp 25) rfl w.heap.size StMath.zero M rfl rfl hZ ?_)
      exact ret_st1 w.heap.size M rfl rfl (StAt.row hZ) rfl ⟨by rw [HMM.out], below_setRow HB.out (Nat.le_refl _) _⟩
end Go.Proofs.Ytecijlgkadlmnaa
