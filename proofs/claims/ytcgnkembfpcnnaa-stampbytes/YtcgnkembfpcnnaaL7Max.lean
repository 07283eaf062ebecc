/-
  The walk of StampMax.
-/
import Derived.Test.YtcgnkembfpcnnaaL7Known
namespace Go.Proofs.Ytcgnkembfpcnnaa
open Go.RowKit NumMath
open StMath (St)
set_option maxRecDepth 100000
set_option linter.unusedVariables false
set_option linter.unusedSimpArgs false

def eqS (a b : St) : Bool := a.p == b.p && (a.l == b.l && a.r == b.r)
theorem eqS_iff {a b : St} : eqS a b = true ↔ a = b := by
  rw [StMath.St.eq_iff]; simp [eqS]
theorem eqS_no {a b : St} (h : eqS a b = false) : a ≠ b := by
  intro e; rw [eqS_iff.2 e] at h; cases h
theorem eqS_cases (a b : St) : ((a.p == b.p) = false ∧ Hid (eqS a b = false)) ∨ ((a.p == b.p) = true ∧ (a.l == b.l) = false ∧ Hid (eqS a b = false)) ∨ ((a.p == b.p) = true ∧ (a.l == b.l) = true ∧ (a.r == b.r) = false ∧ Hid (eqS a b = false)) ∨ ((a.p == b.p) = true ∧ (a.l == b.l) = true ∧ (a.r == b.r) = true ∧ Hid (eqS a b = true)) := by
  unfold Hid eqS
  cases h1 : (a.p == b.p) <;> cases h2 : (a.l == b.l) <;> cases h3 : (a.r == b.r) <;> simp
def anyS (ss : List St) (m : St) (k : Nat) : Bool := decide (ss.length = 0) || (ss.take k).any (fun s => eqS s m)
theorem anyS_succ (ss : List St) (m : St) (k : Nat) (h : k < ss.length) : anyS ss m (k + 1) = (anyS ss m k || eqS (ss[k]?.getD StMath.zero) m) := by
  unfold anyS
  rw [List.take_succ_eq_append_getElem h, List.any_append, Bool.or_assoc]
  simp [h]
theorem anyS_all (ss : List St) : anyS ss (StMath.maxS ss) ss.length = true := by
  unfold anyS
  by_cases h : ss = []
  · simp [h]
  · have := (StMath.max_top ss).2 h
    rw [List.take_of_length_le (Nat.le_refl _), Bool.or_eq_true]
    right
    rw [List.any_eq_true]
    exact ⟨_, this, eqS_iff.2 rfl⟩

set_option maxRecDepth 100000 in
set_option maxHeartbeats 8000000 in
theorem stampMax_walk (a : Option Addr) (ss : List St) (cap : Nat) (W : World) (hr : SRow W a ss) (hc : ss.length ≤ cap) (hm : cap ≤ maxLen) (hf : ∀ s ∈ ss, StMath.Fit s) :
    Calls Try.prog 6 #[.slice a ss.length cap] W fun e W' => e = .returned (.bool true) ∧ Below W.heap.size W W' := by
  have HK : Hid _ := known_any W
  have HM : Hid (∀ w, Below W.heap.size W w → _) := fun w (hB : Below W.heap.size W w) => stMax_any a ss cap w (hr.later hB) hc hm
  have HRM : Hid (∀ w, Below W.heap.size W w → _) := fun w (hB : Below W.heap.size W w) => refMax_any a ss cap w (hr.later hB) hc hm
  have HR : Hid _ := hr
  have HT : Hid _ := (StMath.max_top ss).1
  have HALL : Hid _ := anyS_all ss
  have HSUC : Hid _ := fun k h => anyS_succ ss (StMath.maxS ss) k h
  have HA0 : Hid (anyS ss (StMath.maxS ss) 0 = decide (ss.length = 0)) := by unfold Hid anyS; simp
  have HZ : Hid (ss.length = 0 → StMath.maxS ss = StMath.zero) := fun h => by rw [List.eq_nil_of_length_eq_zero h]; rfl
  obtain ⟨M, hM⟩ : ∃ M, M = StMath.maxS ss := ⟨_, rfl⟩
  rw [← hM] at HM HRM HT HALL HSUC HA0 HZ
  clear hM
  obtain ⟨n, hn⟩ : ∃ n, n = ss.length := ⟨_, rfl⟩
  rw [← hn] at hc HALL HA0 HZ HM HRM ⊢
  have HN : Hid (n = ss.length) := hn
  unfold maxLen at hm
  unfold stV at HM HRM
  clear hn hr hf
  go_enter Try.func6, Try.ntmps6
  go_wp2_with fail
  refine Calls.mono HK.out ?_
  rintro e w1 ⟨rfl, hb1⟩
  by_cases h300 : 300 < n
  · have HB1 : Hid _ := hb1
    clear hb1
    go_wp2
    go_ret
    exact ⟨rfl, HB1.out⟩
  go_wp2_with fail
  refine Calls.mono (HM.out _ hb1) ?_
  rintro e w2 ⟨rfl, hb2⟩
  have HB2 : Hid (Below W.heap.size W w2) := hb1.trans (hb2.mono hb1.size)
  have hs2 : W.heap.size ≤ w2.heap.size := HB2.out.size
  clear hb1 hb2 HK HM
  have HX0 : Hid (StAt (w2.alloc (.cells #[.int .i64 0, .int .i64 0, .int .i64 0] 23)) w2.heap.size StMath.zero) := StAt.new w2 StMath.zero rfl
  go_wp2_with (refine wpList_store_st rfl (.tmp 3) (.tmp 12) rfl w2.heap.size StMath.zero M rfl rfl HX0.out ?_)
  have HX3 : Hid (StAt ((w2.alloc (.cells #[.int .i64 0, .int .i64 0, .int .i64 0] 23)).setRow w2.heap.size (stL M).toArray) w2.heap.size M) := StAt.row HX0.out
  have HB3 : Hid (Below W.heap.size W ((w2.alloc (.cells #[.int .i64 0, .int .i64 0, .int .i64 0] 23)).setRow w2.heap.size (stL M).toArray)) := below_setRow (HB2.out.alloc hs2 _) hs2 _
  clear HX0 HB2
  generalize (w2.alloc (.cells #[.int .i64 0, .int .i64 0, .int .i64 0] 23)).setRow w2.heap.size (stL M).toArray = w3 at *
  generalize w2.heap.size = g at *
  have hne : Nonempty (Grown1 w3) := ⟨⟨w3, Below.refl _ _⟩⟩
  have HC : Hid (∀ m : Grown1 w3, _) := fun m => HRM.out m.w (HB3.out.trans (m.below.mono HB3.out.size))
  clear HRM
  obtain ⟨c0, c1, c2⟩ := HX3.out.cells
  have c0' := fun m : Grown1 w3 => grown1_cell c0 m
  have c1' := fun m : Grown1 w3 => grown1_cell c1 m
  have c2' := fun m : Grown1 w3 => grown1_cell c2 m
  clear c0 c1 c2
  (try simp only [Act.put])
  refine wp_region_grow (by kernel_rfl) (by kernel_rfl) ?_
  repeat (go_big_quiet_step (first | with_reducible exact grown1_call _ (HC.out _)))
  refine wpQuiet_nil ?_
  intro _ hw'
  obtain ⟨n1, hw''⟩ := hw'
  subst hw''
  have HB4 : Hid (Below W.heap.size W n1.w) := HB3.out.trans (n1.below.mono HB3.out.size)
  have HX4 : Hid (StAt n1.w g M) := HX3.out.later n1.below HX3.out.lt
  generalize n1.w = w4 at *
  clear c0' c1' c2' hne HC HX3 HB3
  obtain ⟨c0, c1, c2⟩ := HX4.out.cells
  have hn0 : (n = 0 ∧ Hid (M = StMath.zero)) ∨ 0 < n := by
    by_cases h : n = 0
    · exact .inl ⟨h, HZ.out h⟩
    · exact .inr (by omega)
  rcases hn0 with ⟨h0, HM0⟩ | h0
  · have hnb : ((n : Int) == 0) = true := by simp [h0]
    have hnl : decide ((0 : Int) < (n : Int)) = false := by simp [h0]
    have hle : (n : Int) ≤ 0 := by omega
    rw [HM0.out] at c0 c1 c2
    clear h0 h300 HSUC HT HALL HA0 HZ
    unfold StMath.zero at c0 c1 c2
    dsimp only at c0 c1 c2
    go_wp2
    refine wp_loop_rounds 1 ?_
    rw [rounds_succ]
    go_wp2
    go_ret
    exact ⟨rfl, HB4.out⟩
  have hnb : ((n : Int) == 0) = false := by simp; omega
  have HAf : Hid (anyS ss M 0 = false) := by rw [show decide (n = 0) = false by simp; omega] at HA0; exact HA0
  clear HA0 HZ
  go_wp2
  clear c0 c1 c2
  go_loopw [4, 5] (fun t i wr => ∃ k : Nat, k ≤ n ∧ i = .int .i64 k ∧ t = .bool (anyS ss M k) ∧ StAt wr g M ∧ Below W.heap.size W wr) (fun _ i _ => n - (intOf i).toNat)
  case atStart => exact ⟨0, by omega, rfl, by rw [HAf.out], HX4.out, HB4.out⟩
  case round =>
    obtain ⟨k, hk, rfl, rfl, hX, hB⟩ := hrel
    have HX : Hid _ := hX
    have HB : Hid _ := hB
    clear HX4 HB4 HAf hX hB
    by_cases hkn : k < n
    · have HS : Hid _ := HSUC.out k (by have := HN.out; omega)
      have HTk : Hid (StMath.less M (ss[k]?.getD StMath.zero) = false) := HT.out _ (by
        have hk' : k < ss.length := by have := HN.out; omega
        simp [hk'])
      obtain ⟨b, off, rfl, hcell⟩ := SRow.at (SRow.later HR.out HB.out) (by have := HN.out; omega)
      have hx := hcell k (by have := HN.out; omega)
      clear hcell
      generalize ss[k]?.getD StMath.zero = x at *
      have HXr : Hid (wr.rangeAt b (off + k * 3) (stL x)) := hx
      have hkn2 : (k : Int) < (n : Int) := by omega
      have hne : Nonempty (Grown1 wr) := ⟨⟨wr, Below.refl _ _⟩⟩
      have HL : Hid (∀ m : Grown1 wr, _) := fun m => stLess_any M x m.w
      rw [HTk.out] at HL
      unfold stV at HL
      obtain ⟨c0, c1, c2⟩ := HX.out.cells
      obtain ⟨d0, d1, d2⟩ := range_cells hx
      have c0' := fun m : Grown1 wr => grown1_cell c0 m
      have c1' := fun m : Grown1 wr => grown1_cell c1 m
      have c2' := fun m : Grown1 wr => grown1_cell c2 m
      have d0' := fun m : Grown1 wr => grown1_cell d0 m
      have d1' := fun m : Grown1 wr => grown1_cell d1 m
      have d2' := fun m : Grown1 wr => grown1_cell d2 m
      clear hx c0 c1 c2 d0 d1 d2
      go_wp2_with fail
      (try simp only [Act.put])
      refine wp_region_grow (by kernel_rfl) (by kernel_rfl) ?_
      repeat (go_big_quiet_step (first | with_reducible exact grown1_call _ (HL.out _)))
      refine wpQuiet_nil ?_
      intro _ hw'
      obtain ⟨n1, hw''⟩ := hw'
      subst hw''
      have HB5 : Hid (Below W.heap.size W n1.w) := HB.out.trans (n1.below.mono HB.out.size)
      have HX5 : Hid (StAt n1.w g M) := HX.out.later n1.below HX.out.lt
      have HXr5 : Hid (n1.w.rangeAt b (off + k * 3) (stL x)) := range_later HXr.out n1.below
      generalize n1.w = w5 at *
      clear c0' c1' c2' d0' d1' d2' hne HL HB HX HXr n1
      have hne : Nonempty (Grown1 w5) := ⟨⟨w5, Below.refl _ _⟩⟩
      obtain ⟨c0, c1, c2⟩ := HX5.out.cells
      obtain ⟨d0, d1, d2⟩ := range_cells HXr5.out
      have c0' := fun m : Grown1 w5 => grown1_cell c0 m
      have c1' := fun m : Grown1 w5 => grown1_cell c1 m
      have c2' := fun m : Grown1 w5 => grown1_cell c2 m
      have d0' := fun m : Grown1 w5 => grown1_cell d0 m
      have d1' := fun m : Grown1 w5 => grown1_cell d1 m
      have d2' := fun m : Grown1 w5 => grown1_cell d2 m
      clear c0 c1 c2 d0 d1 d2
      cases hA : anyS ss M k with
      | true =>
        rw [hA] at HS
        clear hA
        go_wp2_with fail
        (try simp only [Act.put])
        refine wp_region_grow (by kernel_rfl) (by kernel_rfl) ?_
        repeat (go_big_quiet_step (fail))
        refine wpQuiet_nil ?_
        intro _ hw'
        obtain ⟨n1, hw''⟩ := hw'
        subst hw''
        have HB6 : Hid (Below W.heap.size W n1.w) := HB5.out.trans (n1.below.mono HB5.out.size)
        have HX6 : Hid (StAt n1.w g M) := HX5.out.later n1.below HX5.out.lt
        generalize n1.w = w6 at *
        clear c0' c1' c2' d0' d1' d2' hne n1
        go_wp2
        go_roundw
        case rel => exact ⟨k + 1, by omega, by go_num, by rw [HS.out]; rfl, HX6.out, HB6.out⟩
        case measure => simp [intOf]; omega
      | false =>
        rw [hA] at HS
        clear hA
        rcases eqS_cases x M with ⟨q1, HQ⟩ | ⟨q1, q2, HQ⟩ | ⟨q1, q2, q3, HQ⟩ | ⟨q1, q2, q3, HQ⟩
        all_goals
          go_wp2_with fail
          (try simp only [Act.put])
          refine wp_region_grow (by kernel_rfl) (by kernel_rfl) ?_
          repeat (go_big_quiet_step (fail))
          refine wpQuiet_nil ?_
          intro _ hw'
          obtain ⟨n1, hw''⟩ := hw'
          subst hw''
          have HB6 : Hid (Below W.heap.size W n1.w) := HB5.out.trans (n1.below.mono HB5.out.size)
          have HX6 : Hid (StAt n1.w g M) := HX5.out.later n1.below HX5.out.lt
          generalize n1.w = w6 at *
          clear c0' c1' c2' d0' d1' d2' hne n1
          go_wp2
          go_roundw
          case rel => exact ⟨k + 1, by omega, by go_num, by rw [HS.out, HQ.out]; rfl, HX6.out, HB6.out⟩
          case measure => simp [intOf]; omega
    · have hkn' : k = n := by omega
      have hdk : decide ((k : Int) < (n : Int)) = false := by simp; omega
      have HE : Hid (anyS ss M k = true) := by rw [hkn']; exact HALL.out
      clear hkn'
      go_wp2
      go_ret
      rw [HE.out]
      exact ⟨rfl, HB.out⟩
end Go.Proofs.Ytcgnkembfpcnnaa
