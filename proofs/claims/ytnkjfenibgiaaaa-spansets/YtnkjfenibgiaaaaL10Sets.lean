/-
  Walk of newsreellaw10.SpanSets.
-/
import Derived.Test.YtnkjfenibgiaaaaL10Known
import Derived.Test.YtnkjfenibgiaaaaL10Kit
import Derived.Laws.BitsAllLaws
import Derived.OpenShut
import Derived.Deep.Cut
namespace Go.Proofs.Ytnkjfenibgiaaaa
open Go.RowKit NumMath
open SpanMath (Rg)
set_option maxRecDepth 100000
set_option linter.unusedVariables false
set_option linter.unusedSimpArgs false

theorem bit_val (x : Int) (k : Nat) (hx : 0 ≤ x ∧ x ≤ 18446744073709551615) : bits .and .u64 (x / 2 ^ k) 1 = (bif SpanMath.bit x k then 1 else 0) := by
  obtain ⟨hs0, hs1⟩ := shr_fits hx k
  rw [bit_and hs0 hs1]
  unfold SpanMath.bit
  by_cases h : x / 2 ^ k % 2 = 1
  · rw [h]; rfl
  · have h0 : x / 2 ^ k % 2 = 0 := by omega
    rw [h0]; rfl
theorem or_val (x y : Int) (hx : 0 ≤ x ∧ x ≤ 18446744073709551615) (hy : 0 ≤ y ∧ y ≤ 18446744073709551615) : (0 ≤ bits .or .u64 x y ∧ bits .or .u64 x y ≤ 18446744073709551615) ∧ ∀ i, i < 64 → SpanMath.bit (bits .or .u64 x y) i = (SpanMath.bit x i || SpanMath.bit y i) := by
  rw [u64_or x y hx.1 (by omega) hy.1 (by omega)]
  obtain ⟨X, rfl⟩ := Int.eq_ofNat_of_zero_le hx.1
  obtain ⟨Y, rfl⟩ := Int.eq_ofNat_of_zero_le hy.1
  have hlt : X ||| Y < 2 ^ 64 := Nat.or_lt_two_pow (by omega) (by omega)
  simp only [Int.toNat_natCast]
  exact ⟨by omega, fun i _ => SpanMath.bit_or X Y i⟩
theorem andNot_val (x y : Int) (hx : 0 ≤ x ∧ x ≤ 18446744073709551615) (hy : 0 ≤ y ∧ y ≤ 18446744073709551615) : (0 ≤ bits .andNot .u64 x y ∧ bits .andNot .u64 x y ≤ 18446744073709551615) ∧ ∀ i, i < 64 → SpanMath.bit (bits .andNot .u64 x y) i = (SpanMath.bit x i && !SpanMath.bit y i) := by
  rw [u64_andNot x y hx.1 (by omega) hy.1 (by omega)]
  obtain ⟨X, rfl⟩ := Int.eq_ofNat_of_zero_le hx.1
  obtain ⟨Y, rfl⟩ := Int.eq_ofNat_of_zero_le hy.1
  have hlt : X &&& (18446744073709551615 - Y) < 2 ^ 64 := Nat.and_lt_two_pow _ (by omega)
  simp only [Int.toNat_natCast]
  exact ⟨by omega, fun i hi => SpanMath.bit_andNot X Y i (by omega) hi⟩
def cnt (x y : Int) (k : Nat) : Int := ((List.range k).countP (fun i : Nat => SpanMath.bit x i && !SpanMath.bit y i) : Int)
theorem cnt_succ (x y : Int) (k : Nat) : cnt x y (k + 1) = cnt x y k + (bif (SpanMath.bit x k && !SpanMath.bit y k) then 1 else 0) := by
  unfold cnt
  rw [List.range_succ, List.countP_append, List.countP_singleton]
  cases (SpanMath.bit x k && !SpanMath.bit y k) <;> simp
theorem cnt_le (x y : Int) (k : Nat) : 0 ≤ cnt x y k ∧ cnt x y k ≤ k := by
  unfold cnt
  have := List.countP_le_length (p := fun i : Nat => SpanMath.bit x i && !SpanMath.bit y i) (l := List.range k)
  rw [List.length_range] at this
  omega

set_option maxHeartbeats 16000000 in
theorem spanSets_low (x y : Int) (w : World) (hx : 0 ≤ x ∧ x ≤ 18446744073709551615) (hy : 0 ≤ y ∧ y ≤ 18446744073709551615) :
    Calls Try.prog 5 #[.int .u64 x, .int .u64 y, .bool false] w fun e w' => e = .returned (.bool true) ∧ Below w.heap.size w w' := by
  have HL0 : Hid (Below w.heap.size w w) := Below.refl _ _
  obtain ⟨ho1, ho2⟩ := or_val x y hx hy
  obtain ⟨hm1, hm2⟩ := andNot_val x y hx hy
  have h0 : (0 : Int) ≤ 0 := by decide
  have h1 : (0 : Int) ≤ 1099511627711 := by decide
  have Sma : Sm (SpanMath.B x 0) := sm_within (SpanMath.B_R _ _) 0 (fun n hn => by have := SpanMath.B_span h0 h1 hn; omega)
  have Smb : Sm (SpanMath.B y 0) := sm_within (SpanMath.B_R _ _) 0 (fun n hn => by have := SpanMath.B_span h0 h1 hn; omega)
  have Smj : Sm (SpanMath.join (SpanMath.B x 0) (SpanMath.B y 0)) := sm_within (SpanMath.join_R (SpanMath.B_R _ _) (SpanMath.B_R _ _)) 0 (fun n hn => by have := SpanMath.bits_span h0 h1 hn; omega)
  have Smm : Sm (SpanMath.minus (SpanMath.B x 0) (SpanMath.B y 0)) := sm_within (SpanMath.minus_R (SpanMath.B_R _ _) (SpanMath.B_R _ _)) 0 (fun n hn => by have := SpanMath.B_span h0 h1 ((SpanMath.minus_in (SpanMath.B_R _ _) (SpanMath.B_R _ _) n).1 hn).1; omega)
  have HBx : Hid (∀ w, _) := fun w => bits_rngs x 0 w hx ⟨h0, h1⟩
  have HBy : Hid (∀ w, _) := fun w => bits_rngs y 0 w hy ⟨h0, h1⟩
  have HBo : Hid (∀ w, _) := fun w => bits_rngs (bits .or .u64 x y) 0 w ho1 ⟨h0, h1⟩
  have HBm : Hid (∀ w, _) := fun w => bits_rngs (bits .andNot .u64 x y) 0 w hm1 ⟨h0, h1⟩
  have HEo : Hid _ := SpanMath.bits_join (x := x) (y := y) (z := bits .or .u64 x y) h0 h1 ho2
  have HEm : Hid _ := SpanMath.bits_minus (x := x) (y := y) (z := bits .andNot .u64 x y) h0 h1 hm2
  have HJh : Hid (∀ i : Nat, i < 64 → ∀ v w', Rngs w' v (SpanMath.join (SpanMath.B x 0) (SpanMath.B y 0)) → Calls Try.prog 12 #[v, .int .i64 (1 + (i : Int))] w' fun e w'' => e = .returned (.bool (SpanMath.bit x i || SpanMath.bit y i)) ∧ Below w'.heap.size w' w'') := fun i hi v w' h => by
    have := spanHas_any v _ (0 + 1 + (i : Int)) w' h Smj.fit (by omega) (by omega)
    rw [SpanMath.has_of Smj.right, SpanMath.bits_join_has h0 h1 hi] at this
    exact this
  have HMh : Hid (∀ i : Nat, i < 64 → ∀ v w', Rngs w' v (SpanMath.minus (SpanMath.B x 0) (SpanMath.B y 0)) → Calls Try.prog 12 #[v, .int .i64 (1 + (i : Int))] w' fun e w'' => e = .returned (.bool (SpanMath.bit x i && !SpanMath.bit y i)) ∧ Below w'.heap.size w' w'') := fun i hi v w' h => by
    have := spanHas_any v _ (0 + 1 + (i : Int)) w' h Smm.fit (by omega) (by omega)
    rw [SpanMath.has_of Smm.right, SpanMath.bits_minus_has h0 h1 hi] at this
    exact this
  have HJ0 : Hid (∀ v w', Rngs w' v (SpanMath.join (SpanMath.B x 0) (SpanMath.B y 0)) → Calls Try.prog 12 #[v, .int .i64 0] w' fun e w'' => e = .returned (.bool false) ∧ Below w'.heap.size w' w'') := fun v w' h => by
    have := spanHas_any v _ 0 w' h Smj.fit (by decide) (by decide)
    rw [SpanMath.has_of Smj.right, (SpanMath.bits_join_out h0 h1).1] at this
    exact this
  have HJ65 : Hid (∀ v w', Rngs w' v (SpanMath.join (SpanMath.B x 0) (SpanMath.B y 0)) → Calls Try.prog 12 #[v, .int .i64 65] w' fun e w'' => e = .returned (.bool false) ∧ Below w'.heap.size w' w'') := fun v w' h => by
    have := spanHas_any v _ (0 + 65) w' h Smj.fit (by decide) (by decide)
    rw [SpanMath.has_of Smj.right, (SpanMath.bits_join_out h0 h1).2] at this
    exact this
  have HSb : Hid (0 ≤ SpanMath.sum (SpanMath.B y 0) ∧ SpanMath.sum (SpanMath.B y 0) ≤ 1099511627775) := SpanMath.sum_le Smb.right
  have HCb : Hid (∀ v w', Rngs w' v (SpanMath.B y 0) → Calls Try.prog 14 #[v] w' fun e w'' => e = .returned (.int .i64 (SpanMath.sum (SpanMath.B y 0))) ∧ Below w'.heap.size w' w'') := fun v w' h => by
    have := spanCount_any v _ w' h Smb.fit
    rw [SpanMath.count_of Smb.right] at this
    exact this
  have HCm : Hid (∀ v w', Rngs w' v (SpanMath.minus (SpanMath.B x 0) (SpanMath.B y 0)) → Calls Try.prog 14 #[v] w' fun e w'' => e = .returned (.int .i64 (cnt x y 64)) ∧ Below w'.heap.size w' w'') := fun v w' h => by
    have := spanCount_any v _ w' h Smm.fit
    rw [SpanMath.count_of Smm.right, SpanMath.bits_minus_sum h0 h1] at this
    exact this
  have HCj : Hid (∀ v w', Rngs w' v (SpanMath.join (SpanMath.B x 0) (SpanMath.B y 0)) → Calls Try.prog 14 #[v] w' fun e w'' => e = .returned (.int .i64 (cnt x y 64 + SpanMath.sum (SpanMath.B y 0))) ∧ Below w'.heap.size w' w'') := fun v w' h => by
    have := spanCount_any v _ w' h Smj.fit
    rw [SpanMath.count_of Smj.right, SpanMath.bits_join_sum h0 h1] at this
    exact this
  have HRj : Hid (SpanMath.right (SpanMath.join (SpanMath.B x 0) (SpanMath.B y 0)) = true) := (SpanMath.right_iff _).2 Smj.right
  have HRm : Hid (SpanMath.right (SpanMath.minus (SpanMath.B x 0) (SpanMath.B y 0)) = true) := (SpanMath.right_iff _).2 Smm.right
  have HVx : Hid (∀ k, _) := fun k => bit_val x k hx
  have HVy : Hid (∀ k, _) := fun k => bit_val y k hy
  have HSc : Hid (∀ k, _) := fun k => cnt_succ x y k
  have HLc : Hid (∀ k, _) := fun k => cnt_le x y k
  have HDx : Hid (∀ k, _) := fun k => shr_fits hx k
  have HDy : Hid (∀ k, _) := fun k => shr_fits hy k
  obtain ⟨zo, hzo⟩ : ∃ z, z = bits .or .u64 x y := ⟨_, rfl⟩
  obtain ⟨zm, hzm⟩ : ∃ z, z = bits .andNot .u64 x y := ⟨_, rfl⟩
  have HZo : Hid (bits .or .u64 x y = zo) := hzo.symm
  have HZm : Hid (bits .andNot .u64 x y = zm) := hzm.symm
  rw [← hzo] at HBo HEo
  rw [← hzm] at HBm HEm
  clear ho1 ho2 hm1 hm2 hzo hzm hx hy h0 h1
  generalize SpanMath.B zo 0 = o at *
  generalize SpanMath.B zm 0 = nn at *
  generalize SpanMath.sum (SpanMath.B y 0) = sb at *
  generalize SpanMath.B x 0 = a at *
  generalize SpanMath.B y 0 = b at *
  have HSa : Hid (Sm a) := Sma
  have HSbb : Hid (Sm b) := Smb
  have HSj : Hid (Sm (SpanMath.join a b)) := Smj
  have HSm : Hid (Sm (SpanMath.minus a b)) := Smm
  clear Sma Smb Smj Smm
  go_enter Try.func5, Try.ntmps5
  go_wp2_with fail
  refine Calls.mono (known_any w) ?_
  rintro e w1 ⟨rfl, hb1⟩
  have HL1 : Hid (Below w.heap.size w w1) := HL0.out.trans (hb1.mono HL0.out.size)
  clear HL0 hb1
  go_wp2_with fail
  refine Calls.mono (HBx.out w1) ?_
  rintro e w2 ⟨v2, rfl, hv2, hb2⟩
  have Ha2 : Hid (Rngs w2 v2 a) := hv2
  have HL2 : Hid (Below w.heap.size w w2) := HL1.out.trans (hb2.mono HL1.out.size)
  clear hv2 HL1 hb2
  go_wp2_with fail
  refine Calls.mono (HBy.out w2) ?_
  rintro e w3 ⟨v3, rfl, hv3, hb3⟩
  have Ha3 : Hid (Rngs w3 v2 a) := Rngs.later Ha2.out hb3
  have Hb3 : Hid (Rngs w3 v3 b) := hv3
  have HL3 : Hid (Below w.heap.size w w3) := HL2.out.trans (hb3.mono HL2.out.size)
  clear Ha2 hv3 HL2 hb3
  go_wp2_with fail
  refine Calls.mono (spanJoin_any v2 v3 a b w3 Ha3.out Hb3.out HSa.out.fit HSbb.out.fit HSa.out.many HSbb.out.many) ?_
  rintro e w4 ⟨v4, rfl, hv4, hb4⟩
  have Ha4 : Hid (Rngs w4 v2 a) := Rngs.later Ha3.out hb4
  have Hb4 : Hid (Rngs w4 v3 b) := Rngs.later Hb3.out hb4
  have Hj4 : Hid (Rngs w4 v4 (SpanMath.join a b)) := hv4
  have HL4 : Hid (Below w.heap.size w w4) := HL3.out.trans (hb4.mono HL3.out.size)
  clear Ha3 Hb3 hv4 HL3 hb4
  go_wp2_with fail
  refine Calls.mono (spanMinus_any v2 v3 a b w4 Ha4.out Hb4.out HSa.out.fit HSbb.out.fit HSa.out.many HSbb.out.many) ?_
  rintro e w5 ⟨v5, rfl, hv5, hb5⟩
  have Ha5 : Hid (Rngs w5 v2 a) := Rngs.later Ha4.out hb5
  have Hb5 : Hid (Rngs w5 v3 b) := Rngs.later Hb4.out hb5
  have Hj5 : Hid (Rngs w5 v4 (SpanMath.join a b)) := Rngs.later Hj4.out hb5
  have Hm5 : Hid (Rngs w5 v5 (SpanMath.minus a b)) := hv5
  have HL5 : Hid (Below w.heap.size w w5) := HL4.out.trans (hb5.mono HL4.out.size)
  clear Ha4 Hb4 Hj4 hv5 HL4 hb5
  clear Ha5
  clear HBx HBy HSa HSbb
  generalize SpanMath.join a b = j at *
  generalize SpanMath.minus a b = m at *
  have HC0 : Hid ((0 : Int) = cnt x y 0) := by show _ = _; simp [cnt]
  go_wp2
  go_loopw [12, 13] (fun c i wr => ∃ k : Nat, k ≤ 64 ∧ i = .int .i64 k ∧ c = .int .i64 (cnt x y k) ∧ Rngs wr v4 j ∧ Rngs wr v5 m ∧ Rngs wr v3 b ∧ Below w.heap.size w wr) (fun _ i _ => 64 - (intOf i).toNat)
  case atStart => exact ⟨0, by omega, rfl, by rw [HC0.out], Hj5.out, Hm5.out, Hb5.out, HL5.out⟩
  case round =>
    obtain ⟨k, hk, rfl, rfl, hRj, hRm, hRb, hB⟩ := hrel
    have Hj : Hid (Rngs wr v4 j) := hRj
    have Hm : Hid (Rngs wr v5 m) := hRm
    have Hb : Hid (Rngs wr v3 b) := hRb
    have HB : Hid (Below w.heap.size w wr) := hB
    clear hRj hRm hRb hB Hj5 Hm5 Hb5 HL5
    by_cases hkn : k < 64
    · have hki : decide ((k : Int) < 64) = true := by simp; omega
      have hvx := HVx.out k
      have hvy := HVy.out k
      have hdx := HDx.out k
      have hdy := HDy.out k
      have HSk : Hid _ := HSc.out k
      have hlc := HLc.out k
      have HHj : Hid (∀ w', Rngs w' v4 j → _) := fun w' h => HJh.out k hkn v4 w' h
      have HHm : Hid (∀ w', Rngs w' v5 m → _) := fun w' h => HMh.out k hkn v5 w' h
      have hk0 : (0 : Int) ≤ (k : Int) := by omega
      have eB : IntKind.i64.wrap (1 + (k : Int)) = 1 + (k : Int) := by rw [IntKind.wrap_i64]; omega
      have eC : IntKind.i64.wrap (cnt x y k + 1) = cnt x y k + 1 := by rw [IntKind.wrap_i64]; omega
      generalize hgx : SpanMath.bit x k = bx at *
      generalize hgy : SpanMath.bit y k = by_ at *
      clear hgx hgy
      generalize cnt x y k = ck at *
      obtain ⟨px, hpx⟩ : ∃ p, p = x / 2 ^ k := ⟨_, rfl⟩
      obtain ⟨py, hpy⟩ : ∃ p, p = y / 2 ^ k := ⟨_, rfl⟩
      cases bx <;> cases by_
      all_goals (
        dsimp only [cond_true, cond_false, Bool.or_true, Bool.or_false, Bool.and_true, Bool.and_false, Bool.not_true, Bool.not_false, Bool.true_and, Bool.false_and, Bool.true_or, Bool.false_or] at hvx hvy HSk HHj HHm
        clear hpx hpy px py
        have hne : Nonempty (Grown1 wr) := ⟨⟨wr, Below.refl _ _⟩⟩
        go_upto_region 12 with (fail)
        (try simp only [Act.put])
        refine wp_region_grow (by kernel_rfl) (by kernel_rfl) ?_
        repeat (go_big_quiet_step (fail))
        refine wpQuiet_nil ?_
        intro _ hw'
        obtain ⟨n1, hw''⟩ := hw'
        subst hw''
        have Hj1 : Hid (Rngs n1.w v4 j) := Hj.out.later n1.below
        have Hm1 : Hid (Rngs n1.w v5 m) := Hm.out.later n1.below
        have Hb1 : Hid (Rngs n1.w v3 b) := Hb.out.later n1.below
        have HB1 : Hid (Below w.heap.size w n1.w) := HB.out.trans (n1.below.mono HB.out.size)
        clear hvx hvy hdx hdy Hj Hm Hb HB
        generalize n1.w = u1 at *
        clear hne n1
        go_wp2_with fail
        refine Calls.mono (HHj.out u1 Hj1.out) ?_
        rintro e u2 ⟨rfl, hb2⟩
        have Hj2 : Hid (Rngs u2 v4 j) := Hj1.out.later hb2
        have Hm2 : Hid (Rngs u2 v5 m) := Hm1.out.later hb2
        have Hb2 : Hid (Rngs u2 v3 b) := Hb1.out.later hb2
        have HB2 : Hid (Below w.heap.size w u2) := HB1.out.trans (hb2.mono HB1.out.size)
        clear hb2 Hj1 Hm1 Hb1 HB1
        go_wp2_with fail
        refine Calls.mono (HHm.out u2 Hm2.out) ?_
        rintro e u3 ⟨rfl, hb3⟩
        have Hj3 : Hid (Rngs u3 v4 j) := Hj2.out.later hb3
        have Hm3 : Hid (Rngs u3 v5 m) := Hm2.out.later hb3
        have Hb3 : Hid (Rngs u3 v3 b) := Hb2.out.later hb3
        have HB3 : Hid (Below w.heap.size w u3) := HB2.out.trans (hb3.mono HB2.out.size)
        clear hb3 Hj2 Hm2 Hb2 HB2
        go_wp2
        go_roundw
        case rel => exact ⟨k + 1, by omega, by go_num, by rw [HSk.out]; try simp, Hj3.out, Hm3.out, Hb3.out, HB3.out⟩
        case measure => simp [intOf]; omega)
    · have hkk : k = 64 := by omega
      have hki : decide ((k : Int) < 64) = false := by simp; omega
      subst hkk
      have hlc := HLc.out 64
      have hsb := HSb.out
      have HZo1 := HZo.out
      have HZm1 := HZm.out
      generalize cnt x y 64 = ck at *
      have eS : IntKind.i64.wrap (ck + sb) = ck + sb := by rw [IntKind.wrap_i64]; omega
      clear hki hkn hk HVx HVy HSc HLc HDx HDy HJh HMh HC0
      have hrj := spanRight_any v4 j wr Hj.out HSj.out.fit
      rw [HRj.out] at hrj
      have HX1 : Hid _ := hrj
      clear hrj
      go_wp2_with fail
      refine Calls.mono (HX1.out) ?_
      rintro e w21 ⟨rfl, hb21⟩
      have Hj21 : Hid (Rngs w21 v4 j) := Rngs.later Hj.out hb21
      have Hm21 : Hid (Rngs w21 v5 m) := Rngs.later Hm.out hb21
      have Hb21 : Hid (Rngs w21 v3 b) := Rngs.later Hb.out hb21
      have HL21 : Hid (Below w.heap.size w w21) := HB.out.trans (hb21.mono HB.out.size)
      clear Hj Hm Hb HB hb21
      have hrm := spanRight_any v5 m w21 Hm21.out HSm.out.fit
      rw [HRm.out] at hrm
      have HX2 : Hid _ := hrm
      clear hrm
      go_wp2_with fail
      refine Calls.mono (HX2.out) ?_
      rintro e w22 ⟨rfl, hb22⟩
      have Hj22 : Hid (Rngs w22 v4 j) := Rngs.later Hj21.out hb22
      have Hm22 : Hid (Rngs w22 v5 m) := Rngs.later Hm21.out hb22
      have Hb22 : Hid (Rngs w22 v3 b) := Rngs.later Hb21.out hb22
      have HL22 : Hid (Below w.heap.size w w22) := HL21.out.trans (hb22.mono HL21.out.size)
      clear Hj21 Hm21 Hb21 HL21 hb22
      go_wp2_with fail
      refine Calls.mono (HCm.out v5 w22 Hm22.out) ?_
      rintro e w23 ⟨rfl, hb23⟩
      have Hj23 : Hid (Rngs w23 v4 j) := Rngs.later Hj22.out hb23
      have Hm23 : Hid (Rngs w23 v5 m) := Rngs.later Hm22.out hb23
      have Hb23 : Hid (Rngs w23 v3 b) := Rngs.later Hb22.out hb23
      have HL23 : Hid (Below w.heap.size w w23) := HL22.out.trans (hb23.mono HL22.out.size)
      clear Hj22 Hm22 Hb22 HL22 hb23
      go_wp2_with fail
      refine Calls.mono (HCj.out v4 w23 Hj23.out) ?_
      rintro e w24 ⟨rfl, hb24⟩
      have Hj24 : Hid (Rngs w24 v4 j) := Rngs.later Hj23.out hb24
      have Hm24 : Hid (Rngs w24 v5 m) := Rngs.later Hm23.out hb24
      have Hb24 : Hid (Rngs w24 v3 b) := Rngs.later Hb23.out hb24
      have HL24 : Hid (Below w.heap.size w w24) := HL23.out.trans (hb24.mono HL23.out.size)
      clear Hj23 Hm23 Hb23 HL23 hb24
      go_wp2_with fail
      refine Calls.mono (HCb.out v3 w24 Hb24.out) ?_
      rintro e w25 ⟨rfl, hb25⟩
      have Hj25 : Hid (Rngs w25 v4 j) := Rngs.later Hj24.out hb25
      have Hm25 : Hid (Rngs w25 v5 m) := Rngs.later Hm24.out hb25
      have Hb25 : Hid (Rngs w25 v3 b) := Rngs.later Hb24.out hb25
      have HL25 : Hid (Below w.heap.size w w25) := HL24.out.trans (hb25.mono HL24.out.size)
      clear Hj24 Hm24 Hb24 HL24 hb25
      go_wp2_with fail
      refine Calls.mono (HJ0.out v4 w25 Hj25.out) ?_
      rintro e w26 ⟨rfl, hb26⟩
      have Hj26 : Hid (Rngs w26 v4 j) := Rngs.later Hj25.out hb26
      have Hm26 : Hid (Rngs w26 v5 m) := Rngs.later Hm25.out hb26
      have Hb26 : Hid (Rngs w26 v3 b) := Rngs.later Hb25.out hb26
      have HL26 : Hid (Below w.heap.size w w26) := HL25.out.trans (hb26.mono HL25.out.size)
      clear Hj25 Hm25 Hb25 HL25 hb26
      go_wp2_with fail
      refine Calls.mono (HJ65.out v4 w26 Hj26.out) ?_
      rintro e w27 ⟨rfl, hb27⟩
      have Hj27 : Hid (Rngs w27 v4 j) := Rngs.later Hj26.out hb27
      have Hm27 : Hid (Rngs w27 v5 m) := Rngs.later Hm26.out hb27
      have Hb27 : Hid (Rngs w27 v3 b) := Rngs.later Hb26.out hb27
      have HL27 : Hid (Below w.heap.size w w27) := HL26.out.trans (hb27.mono HL26.out.size)
      clear Hj26 Hm26 Hb26 HL26 hb27
      go_wp2_with fail
      refine Calls.mono (HBo.out w27) ?_
      rintro e w28 ⟨v28, rfl, hv28, hb28⟩
      have Hj28 : Hid (Rngs w28 v4 j) := Rngs.later Hj27.out hb28
      have Hm28 : Hid (Rngs w28 v5 m) := Rngs.later Hm27.out hb28
      have Hb28 : Hid (Rngs w28 v3 b) := Rngs.later Hb27.out hb28
      have Ho28 : Hid (Rngs w28 v28 o) := hv28
      have HL28 : Hid (Below w.heap.size w w28) := HL27.out.trans (hb28.mono HL27.out.size)
      clear Hj27 Hm27 Hb27 hv28 HL27 hb28
      go_wp2_with fail
      refine Calls.mono (same_of w28 Hj28.out Ho28.out HEo.out HSj.out) ?_
      rintro e w29 ⟨rfl, hb29⟩
      have Hj29 : Hid (Rngs w29 v4 j) := Rngs.later Hj28.out hb29
      have Hm29 : Hid (Rngs w29 v5 m) := Rngs.later Hm28.out hb29
      have Hb29 : Hid (Rngs w29 v3 b) := Rngs.later Hb28.out hb29
      have Ho29 : Hid (Rngs w29 v28 o) := Rngs.later Ho28.out hb29
      have HL29 : Hid (Below w.heap.size w w29) := HL28.out.trans (hb29.mono HL28.out.size)
      clear Hj28 Hm28 Hb28 Ho28 HL28 hb29
      go_wp2_with fail
      refine Calls.mono (HBm.out w29) ?_
      rintro e w30 ⟨v30, rfl, hv30, hb30⟩
      have Hj30 : Hid (Rngs w30 v4 j) := Rngs.later Hj29.out hb30
      have Hm30 : Hid (Rngs w30 v5 m) := Rngs.later Hm29.out hb30
      have Hb30 : Hid (Rngs w30 v3 b) := Rngs.later Hb29.out hb30
      have Ho30 : Hid (Rngs w30 v28 o) := Rngs.later Ho29.out hb30
      have Hn30 : Hid (Rngs w30 v30 nn) := hv30
      have HL30 : Hid (Below w.heap.size w w30) := HL29.out.trans (hb30.mono HL29.out.size)
      clear Hj29 Hm29 Hb29 Ho29 hv30 HL29 hb30
      go_wp2_with fail
      refine Calls.mono (same_of w30 Hm30.out Hn30.out HEm.out HSm.out) ?_
      rintro e w31 ⟨rfl, hb31⟩
      have Hj31 : Hid (Rngs w31 v4 j) := Rngs.later Hj30.out hb31
      have Hm31 : Hid (Rngs w31 v5 m) := Rngs.later Hm30.out hb31
      have Hb31 : Hid (Rngs w31 v3 b) := Rngs.later Hb30.out hb31
      have Ho31 : Hid (Rngs w31 v28 o) := Rngs.later Ho30.out hb31
      have Hn31 : Hid (Rngs w31 v30 nn) := Rngs.later Hn30.out hb31
      have HL31 : Hid (Below w.heap.size w w31) := HL30.out.trans (hb31.mono HL30.out.size)
      clear Hj30 Hm30 Hb30 Ho30 Hn30 HL30 hb31
      go_wp2
      go_ret
      exact ⟨rfl, HL31.out⟩
set_option maxHeartbeats 16000000 in
theorem spanSets_high (x y : Int) (w : World) (hx : 0 ≤ x ∧ x ≤ 18446744073709551615) (hy : 0 ≤ y ∧ y ≤ 18446744073709551615) :
    Calls Try.prog 5 #[.int .u64 x, .int .u64 y, .bool true] w fun e w' => e = .returned (.bool true) ∧ Below w.heap.size w w' := by
  have HL0 : Hid (Below w.heap.size w w) := Below.refl _ _
  obtain ⟨ho1, ho2⟩ := or_val x y hx hy
  obtain ⟨hm1, hm2⟩ := andNot_val x y hx hy
  have h0 : (0 : Int) ≤ 1099511627711 := by decide
  have h1 : (1099511627711 : Int) ≤ 1099511627711 := by decide
  have Sma : Sm (SpanMath.B x 1099511627711) := sm_within (SpanMath.B_R _ _) 1099511627711 (fun n hn => by have := SpanMath.B_span h0 h1 hn; omega)
  have Smb : Sm (SpanMath.B y 1099511627711) := sm_within (SpanMath.B_R _ _) 1099511627711 (fun n hn => by have := SpanMath.B_span h0 h1 hn; omega)
  have Smj : Sm (SpanMath.join (SpanMath.B x 1099511627711) (SpanMath.B y 1099511627711)) := sm_within (SpanMath.join_R (SpanMath.B_R _ _) (SpanMath.B_R _ _)) 1099511627711 (fun n hn => by have := SpanMath.bits_span h0 h1 hn; omega)
  have Smm : Sm (SpanMath.minus (SpanMath.B x 1099511627711) (SpanMath.B y 1099511627711)) := sm_within (SpanMath.minus_R (SpanMath.B_R _ _) (SpanMath.B_R _ _)) 1099511627711 (fun n hn => by have := SpanMath.B_span h0 h1 ((SpanMath.minus_in (SpanMath.B_R _ _) (SpanMath.B_R _ _) n).1 hn).1; omega)
  have HBx : Hid (∀ w, _) := fun w => bits_rngs x 1099511627711 w hx ⟨h0, h1⟩
  have HBy : Hid (∀ w, _) := fun w => bits_rngs y 1099511627711 w hy ⟨h0, h1⟩
  have HBo : Hid (∀ w, _) := fun w => bits_rngs (bits .or .u64 x y) 1099511627711 w ho1 ⟨h0, h1⟩
  have HBm : Hid (∀ w, _) := fun w => bits_rngs (bits .andNot .u64 x y) 1099511627711 w hm1 ⟨h0, h1⟩
  have HEo : Hid _ := SpanMath.bits_join (x := x) (y := y) (z := bits .or .u64 x y) h0 h1 ho2
  have HEm : Hid _ := SpanMath.bits_minus (x := x) (y := y) (z := bits .andNot .u64 x y) h0 h1 hm2
  have HJh : Hid (∀ i : Nat, i < 64 → ∀ v w', Rngs w' v (SpanMath.join (SpanMath.B x 1099511627711) (SpanMath.B y 1099511627711)) → Calls Try.prog 12 #[v, .int .i64 (1099511627712 + (i : Int))] w' fun e w'' => e = .returned (.bool (SpanMath.bit x i || SpanMath.bit y i)) ∧ Below w'.heap.size w' w'') := fun i hi v w' h => by
    have := spanHas_any v _ (1099511627711 + 1 + (i : Int)) w' h Smj.fit (by omega) (by omega)
    rw [SpanMath.has_of Smj.right, SpanMath.bits_join_has h0 h1 hi] at this
    exact this
  have HMh : Hid (∀ i : Nat, i < 64 → ∀ v w', Rngs w' v (SpanMath.minus (SpanMath.B x 1099511627711) (SpanMath.B y 1099511627711)) → Calls Try.prog 12 #[v, .int .i64 (1099511627712 + (i : Int))] w' fun e w'' => e = .returned (.bool (SpanMath.bit x i && !SpanMath.bit y i)) ∧ Below w'.heap.size w' w'') := fun i hi v w' h => by
    have := spanHas_any v _ (1099511627711 + 1 + (i : Int)) w' h Smm.fit (by omega) (by omega)
    rw [SpanMath.has_of Smm.right, SpanMath.bits_minus_has h0 h1 hi] at this
    exact this
  have HJ0 : Hid (∀ v w', Rngs w' v (SpanMath.join (SpanMath.B x 1099511627711) (SpanMath.B y 1099511627711)) → Calls Try.prog 12 #[v, .int .i64 1099511627711] w' fun e w'' => e = .returned (.bool false) ∧ Below w'.heap.size w' w'') := fun v w' h => by
    have := spanHas_any v _ 1099511627711 w' h Smj.fit (by decide) (by decide)
    rw [SpanMath.has_of Smj.right, (SpanMath.bits_join_out h0 h1).1] at this
    exact this
  have HJ65 : Hid (∀ v w', Rngs w' v (SpanMath.join (SpanMath.B x 1099511627711) (SpanMath.B y 1099511627711)) → Calls Try.prog 12 #[v, .int .i64 1099511627776] w' fun e w'' => e = .returned (.bool false) ∧ Below w'.heap.size w' w'') := fun v w' h => by
    have := spanHas_any v _ (1099511627711 + 65) w' h Smj.fit (by decide) (by decide)
    rw [SpanMath.has_of Smj.right, (SpanMath.bits_join_out h0 h1).2] at this
    exact this
  have HSb : Hid (0 ≤ SpanMath.sum (SpanMath.B y 1099511627711) ∧ SpanMath.sum (SpanMath.B y 1099511627711) ≤ 1099511627775) := SpanMath.sum_le Smb.right
  have HCb : Hid (∀ v w', Rngs w' v (SpanMath.B y 1099511627711) → Calls Try.prog 14 #[v] w' fun e w'' => e = .returned (.int .i64 (SpanMath.sum (SpanMath.B y 1099511627711))) ∧ Below w'.heap.size w' w'') := fun v w' h => by
    have := spanCount_any v _ w' h Smb.fit
    rw [SpanMath.count_of Smb.right] at this
    exact this
  have HCm : Hid (∀ v w', Rngs w' v (SpanMath.minus (SpanMath.B x 1099511627711) (SpanMath.B y 1099511627711)) → Calls Try.prog 14 #[v] w' fun e w'' => e = .returned (.int .i64 (cnt x y 64)) ∧ Below w'.heap.size w' w'') := fun v w' h => by
    have := spanCount_any v _ w' h Smm.fit
    rw [SpanMath.count_of Smm.right, SpanMath.bits_minus_sum h0 h1] at this
    exact this
  have HCj : Hid (∀ v w', Rngs w' v (SpanMath.join (SpanMath.B x 1099511627711) (SpanMath.B y 1099511627711)) → Calls Try.prog 14 #[v] w' fun e w'' => e = .returned (.int .i64 (cnt x y 64 + SpanMath.sum (SpanMath.B y 1099511627711))) ∧ Below w'.heap.size w' w'') := fun v w' h => by
    have := spanCount_any v _ w' h Smj.fit
    rw [SpanMath.count_of Smj.right, SpanMath.bits_join_sum h0 h1] at this
    exact this
  have HRj : Hid (SpanMath.right (SpanMath.join (SpanMath.B x 1099511627711) (SpanMath.B y 1099511627711)) = true) := (SpanMath.right_iff _).2 Smj.right
  have HRm : Hid (SpanMath.right (SpanMath.minus (SpanMath.B x 1099511627711) (SpanMath.B y 1099511627711)) = true) := (SpanMath.right_iff _).2 Smm.right
  have HVx : Hid (∀ k, _) := fun k => bit_val x k hx
  have HVy : Hid (∀ k, _) := fun k => bit_val y k hy
  have HSc : Hid (∀ k, _) := fun k => cnt_succ x y k
  have HLc : Hid (∀ k, _) := fun k => cnt_le x y k
  have HDx : Hid (∀ k, _) := fun k => shr_fits hx k
  have HDy : Hid (∀ k, _) := fun k => shr_fits hy k
  obtain ⟨zo, hzo⟩ : ∃ z, z = bits .or .u64 x y := ⟨_, rfl⟩
  obtain ⟨zm, hzm⟩ : ∃ z, z = bits .andNot .u64 x y := ⟨_, rfl⟩
  have HZo : Hid (bits .or .u64 x y = zo) := hzo.symm
  have HZm : Hid (bits .andNot .u64 x y = zm) := hzm.symm
  rw [← hzo] at HBo HEo
  rw [← hzm] at HBm HEm
  clear ho1 ho2 hm1 hm2 hzo hzm hx hy h0 h1
  generalize SpanMath.B zo 1099511627711 = o at *
  generalize SpanMath.B zm 1099511627711 = nn at *
  generalize SpanMath.sum (SpanMath.B y 1099511627711) = sb at *
  generalize SpanMath.B x 1099511627711 = a at *
  generalize SpanMath.B y 1099511627711 = b at *
  have HSa : Hid (Sm a) := Sma
  have HSbb : Hid (Sm b) := Smb
  have HSj : Hid (Sm (SpanMath.join a b)) := Smj
  have HSm : Hid (Sm (SpanMath.minus a b)) := Smm
  clear Sma Smb Smj Smm
  go_enter Try.func5, Try.ntmps5
  go_wp2_with fail
  refine Calls.mono (known_any w) ?_
  rintro e w1 ⟨rfl, hb1⟩
  have HL1 : Hid (Below w.heap.size w w1) := HL0.out.trans (hb1.mono HL0.out.size)
  clear HL0 hb1
  go_wp2_with fail
  refine Calls.mono (HBx.out w1) ?_
  rintro e w2 ⟨v2, rfl, hv2, hb2⟩
  have Ha2 : Hid (Rngs w2 v2 a) := hv2
  have HL2 : Hid (Below w.heap.size w w2) := HL1.out.trans (hb2.mono HL1.out.size)
  clear hv2 HL1 hb2
  go_wp2_with fail
  refine Calls.mono (HBy.out w2) ?_
  rintro e w3 ⟨v3, rfl, hv3, hb3⟩
  have Ha3 : Hid (Rngs w3 v2 a) := Rngs.later Ha2.out hb3
  have Hb3 : Hid (Rngs w3 v3 b) := hv3
  have HL3 : Hid (Below w.heap.size w w3) := HL2.out.trans (hb3.mono HL2.out.size)
  clear Ha2 hv3 HL2 hb3
  go_wp2_with fail
  refine Calls.mono (spanJoin_any v2 v3 a b w3 Ha3.out Hb3.out HSa.out.fit HSbb.out.fit HSa.out.many HSbb.out.many) ?_
  rintro e w4 ⟨v4, rfl, hv4, hb4⟩
  have Ha4 : Hid (Rngs w4 v2 a) := Rngs.later Ha3.out hb4
  have Hb4 : Hid (Rngs w4 v3 b) := Rngs.later Hb3.out hb4
  have Hj4 : Hid (Rngs w4 v4 (SpanMath.join a b)) := hv4
  have HL4 : Hid (Below w.heap.size w w4) := HL3.out.trans (hb4.mono HL3.out.size)
  clear Ha3 Hb3 hv4 HL3 hb4
  go_wp2_with fail
  refine Calls.mono (spanMinus_any v2 v3 a b w4 Ha4.out Hb4.out HSa.out.fit HSbb.out.fit HSa.out.many HSbb.out.many) ?_
  rintro e w5 ⟨v5, rfl, hv5, hb5⟩
  have Ha5 : Hid (Rngs w5 v2 a) := Rngs.later Ha4.out hb5
  have Hb5 : Hid (Rngs w5 v3 b) := Rngs.later Hb4.out hb5
  have Hj5 : Hid (Rngs w5 v4 (SpanMath.join a b)) := Rngs.later Hj4.out hb5
  have Hm5 : Hid (Rngs w5 v5 (SpanMath.minus a b)) := hv5
  have HL5 : Hid (Below w.heap.size w w5) := HL4.out.trans (hb5.mono HL4.out.size)
  clear Ha4 Hb4 Hj4 hv5 HL4 hb5
  clear Ha5
  clear HBx HBy HSa HSbb
  generalize SpanMath.join a b = j at *
  generalize SpanMath.minus a b = m at *
  have HC0 : Hid ((0 : Int) = cnt x y 0) := by show _ = _; simp [cnt]
  go_wp2
  go_loopw [12, 13] (fun c i wr => ∃ k : Nat, k ≤ 64 ∧ i = .int .i64 k ∧ c = .int .i64 (cnt x y k) ∧ Rngs wr v4 j ∧ Rngs wr v5 m ∧ Rngs wr v3 b ∧ Below w.heap.size w wr) (fun _ i _ => 64 - (intOf i).toNat)
  case atStart => exact ⟨0, by omega, rfl, by rw [HC0.out], Hj5.out, Hm5.out, Hb5.out, HL5.out⟩
  case round =>
    obtain ⟨k, hk, rfl, rfl, hRj, hRm, hRb, hB⟩ := hrel
    have Hj : Hid (Rngs wr v4 j) := hRj
    have Hm : Hid (Rngs wr v5 m) := hRm
    have Hb : Hid (Rngs wr v3 b) := hRb
    have HB : Hid (Below w.heap.size w wr) := hB
    clear hRj hRm hRb hB Hj5 Hm5 Hb5 HL5
    by_cases hkn : k < 64
    · have hki : decide ((k : Int) < 64) = true := by simp; omega
      have hvx := HVx.out k
      have hvy := HVy.out k
      have hdx := HDx.out k
      have hdy := HDy.out k
      have HSk : Hid _ := HSc.out k
      have hlc := HLc.out k
      have HHj : Hid (∀ w', Rngs w' v4 j → _) := fun w' h => HJh.out k hkn v4 w' h
      have HHm : Hid (∀ w', Rngs w' v5 m → _) := fun w' h => HMh.out k hkn v5 w' h
      have hk0 : (0 : Int) ≤ (k : Int) := by omega
      have eB : IntKind.i64.wrap (1099511627712 + (k : Int)) = 1099511627712 + (k : Int) := by rw [IntKind.wrap_i64]; omega
      have eC : IntKind.i64.wrap (cnt x y k + 1) = cnt x y k + 1 := by rw [IntKind.wrap_i64]; omega
      generalize hgx : SpanMath.bit x k = bx at *
      generalize hgy : SpanMath.bit y k = by_ at *
      clear hgx hgy
      generalize cnt x y k = ck at *
      obtain ⟨px, hpx⟩ : ∃ p, p = x / 2 ^ k := ⟨_, rfl⟩
      obtain ⟨py, hpy⟩ : ∃ p, p = y / 2 ^ k := ⟨_, rfl⟩
      cases bx <;> cases by_
      all_goals (
        dsimp only [cond_true, cond_false, Bool.or_true, Bool.or_false, Bool.and_true, Bool.and_false, Bool.not_true, Bool.not_false, Bool.true_and, Bool.false_and, Bool.true_or, Bool.false_or] at hvx hvy HSk HHj HHm
        clear hpx hpy px py
        have hne : Nonempty (Grown1 wr) := ⟨⟨wr, Below.refl _ _⟩⟩
        go_upto_region 12 with (fail)
        (try simp only [Act.put])
        refine wp_region_grow (by kernel_rfl) (by kernel_rfl) ?_
        repeat (go_big_quiet_step (fail))
        refine wpQuiet_nil ?_
        intro _ hw'
        obtain ⟨n1, hw''⟩ := hw'
        subst hw''
        have Hj1 : Hid (Rngs n1.w v4 j) := Hj.out.later n1.below
        have Hm1 : Hid (Rngs n1.w v5 m) := Hm.out.later n1.below
        have Hb1 : Hid (Rngs n1.w v3 b) := Hb.out.later n1.below
        have HB1 : Hid (Below w.heap.size w n1.w) := HB.out.trans (n1.below.mono HB.out.size)
        clear hvx hvy hdx hdy Hj Hm Hb HB
        generalize n1.w = u1 at *
        clear hne n1
        go_wp2_with fail
        refine Calls.mono (HHj.out u1 Hj1.out) ?_
        rintro e u2 ⟨rfl, hb2⟩
        have Hj2 : Hid (Rngs u2 v4 j) := Hj1.out.later hb2
        have Hm2 : Hid (Rngs u2 v5 m) := Hm1.out.later hb2
        have Hb2 : Hid (Rngs u2 v3 b) := Hb1.out.later hb2
        have HB2 : Hid (Below w.heap.size w u2) := HB1.out.trans (hb2.mono HB1.out.size)
        clear hb2 Hj1 Hm1 Hb1 HB1
        go_wp2_with fail
        refine Calls.mono (HHm.out u2 Hm2.out) ?_
        rintro e u3 ⟨rfl, hb3⟩
        have Hj3 : Hid (Rngs u3 v4 j) := Hj2.out.later hb3
        have Hm3 : Hid (Rngs u3 v5 m) := Hm2.out.later hb3
        have Hb3 : Hid (Rngs u3 v3 b) := Hb2.out.later hb3
        have HB3 : Hid (Below w.heap.size w u3) := HB2.out.trans (hb3.mono HB2.out.size)
        clear hb3 Hj2 Hm2 Hb2 HB2
        go_wp2
        go_roundw
        case rel => exact ⟨k + 1, by omega, by go_num, by rw [HSk.out]; try simp, Hj3.out, Hm3.out, Hb3.out, HB3.out⟩
        case measure => simp [intOf]; omega)
    · have hkk : k = 64 := by omega
      have hki : decide ((k : Int) < 64) = false := by simp; omega
      subst hkk
      have hlc := HLc.out 64
      have hsb := HSb.out
      have HZo1 := HZo.out
      have HZm1 := HZm.out
      generalize cnt x y 64 = ck at *
      have eS : IntKind.i64.wrap (ck + sb) = ck + sb := by rw [IntKind.wrap_i64]; omega
      clear hki hkn hk HVx HVy HSc HLc HDx HDy HJh HMh HC0
      have hrj := spanRight_any v4 j wr Hj.out HSj.out.fit
      rw [HRj.out] at hrj
      have HX1 : Hid _ := hrj
      clear hrj
      go_wp2_with fail
      refine Calls.mono (HX1.out) ?_
      rintro e w21 ⟨rfl, hb21⟩
      have Hj21 : Hid (Rngs w21 v4 j) := Rngs.later Hj.out hb21
      have Hm21 : Hid (Rngs w21 v5 m) := Rngs.later Hm.out hb21
      have Hb21 : Hid (Rngs w21 v3 b) := Rngs.later Hb.out hb21
      have HL21 : Hid (Below w.heap.size w w21) := HB.out.trans (hb21.mono HB.out.size)
      clear Hj Hm Hb HB hb21
      have hrm := spanRight_any v5 m w21 Hm21.out HSm.out.fit
      rw [HRm.out] at hrm
      have HX2 : Hid _ := hrm
      clear hrm
      go_wp2_with fail
      refine Calls.mono (HX2.out) ?_
      rintro e w22 ⟨rfl, hb22⟩
      have Hj22 : Hid (Rngs w22 v4 j) := Rngs.later Hj21.out hb22
      have Hm22 : Hid (Rngs w22 v5 m) := Rngs.later Hm21.out hb22
      have Hb22 : Hid (Rngs w22 v3 b) := Rngs.later Hb21.out hb22
      have HL22 : Hid (Below w.heap.size w w22) := HL21.out.trans (hb22.mono HL21.out.size)
      clear Hj21 Hm21 Hb21 HL21 hb22
      go_wp2_with fail
      refine Calls.mono (HCm.out v5 w22 Hm22.out) ?_
      rintro e w23 ⟨rfl, hb23⟩
      have Hj23 : Hid (Rngs w23 v4 j) := Rngs.later Hj22.out hb23
      have Hm23 : Hid (Rngs w23 v5 m) := Rngs.later Hm22.out hb23
      have Hb23 : Hid (Rngs w23 v3 b) := Rngs.later Hb22.out hb23
      have HL23 : Hid (Below w.heap.size w w23) := HL22.out.trans (hb23.mono HL22.out.size)
      clear Hj22 Hm22 Hb22 HL22 hb23
      go_wp2_with fail
      refine Calls.mono (HCj.out v4 w23 Hj23.out) ?_
      rintro e w24 ⟨rfl, hb24⟩
      have Hj24 : Hid (Rngs w24 v4 j) := Rngs.later Hj23.out hb24
      have Hm24 : Hid (Rngs w24 v5 m) := Rngs.later Hm23.out hb24
      have Hb24 : Hid (Rngs w24 v3 b) := Rngs.later Hb23.out hb24
      have HL24 : Hid (Below w.heap.size w w24) := HL23.out.trans (hb24.mono HL23.out.size)
      clear Hj23 Hm23 Hb23 HL23 hb24
      go_wp2_with fail
      refine Calls.mono (HCb.out v3 w24 Hb24.out) ?_
      rintro e w25 ⟨rfl, hb25⟩
      have Hj25 : Hid (Rngs w25 v4 j) := Rngs.later Hj24.out hb25
      have Hm25 : Hid (Rngs w25 v5 m) := Rngs.later Hm24.out hb25
      have Hb25 : Hid (Rngs w25 v3 b) := Rngs.later Hb24.out hb25
      have HL25 : Hid (Below w.heap.size w w25) := HL24.out.trans (hb25.mono HL24.out.size)
      clear Hj24 Hm24 Hb24 HL24 hb25
      go_wp2_with fail
      refine Calls.mono (HJ0.out v4 w25 Hj25.out) ?_
      rintro e w26 ⟨rfl, hb26⟩
      have Hj26 : Hid (Rngs w26 v4 j) := Rngs.later Hj25.out hb26
      have Hm26 : Hid (Rngs w26 v5 m) := Rngs.later Hm25.out hb26
      have Hb26 : Hid (Rngs w26 v3 b) := Rngs.later Hb25.out hb26
      have HL26 : Hid (Below w.heap.size w w26) := HL25.out.trans (hb26.mono HL25.out.size)
      clear Hj25 Hm25 Hb25 HL25 hb26
      go_wp2_with fail
      refine Calls.mono (HJ65.out v4 w26 Hj26.out) ?_
      rintro e w27 ⟨rfl, hb27⟩
      have Hj27 : Hid (Rngs w27 v4 j) := Rngs.later Hj26.out hb27
      have Hm27 : Hid (Rngs w27 v5 m) := Rngs.later Hm26.out hb27
      have Hb27 : Hid (Rngs w27 v3 b) := Rngs.later Hb26.out hb27
      have HL27 : Hid (Below w.heap.size w w27) := HL26.out.trans (hb27.mono HL26.out.size)
      clear Hj26 Hm26 Hb26 HL26 hb27
      go_wp2_with fail
      refine Calls.mono (HBo.out w27) ?_
      rintro e w28 ⟨v28, rfl, hv28, hb28⟩
      have Hj28 : Hid (Rngs w28 v4 j) := Rngs.later Hj27.out hb28
      have Hm28 : Hid (Rngs w28 v5 m) := Rngs.later Hm27.out hb28
      have Hb28 : Hid (Rngs w28 v3 b) := Rngs.later Hb27.out hb28
      have Ho28 : Hid (Rngs w28 v28 o) := hv28
      have HL28 : Hid (Below w.heap.size w w28) := HL27.out.trans (hb28.mono HL27.out.size)
      clear Hj27 Hm27 Hb27 hv28 HL27 hb28
      go_wp2_with fail
      refine Calls.mono (same_of w28 Hj28.out Ho28.out HEo.out HSj.out) ?_
      rintro e w29 ⟨rfl, hb29⟩
      have Hj29 : Hid (Rngs w29 v4 j) := Rngs.later Hj28.out hb29
      have Hm29 : Hid (Rngs w29 v5 m) := Rngs.later Hm28.out hb29
      have Hb29 : Hid (Rngs w29 v3 b) := Rngs.later Hb28.out hb29
      have Ho29 : Hid (Rngs w29 v28 o) := Rngs.later Ho28.out hb29
      have HL29 : Hid (Below w.heap.size w w29) := HL28.out.trans (hb29.mono HL28.out.size)
      clear Hj28 Hm28 Hb28 Ho28 HL28 hb29
      go_wp2_with fail
      refine Calls.mono (HBm.out w29) ?_
      rintro e w30 ⟨v30, rfl, hv30, hb30⟩
      have Hj30 : Hid (Rngs w30 v4 j) := Rngs.later Hj29.out hb30
      have Hm30 : Hid (Rngs w30 v5 m) := Rngs.later Hm29.out hb30
      have Hb30 : Hid (Rngs w30 v3 b) := Rngs.later Hb29.out hb30
      have Ho30 : Hid (Rngs w30 v28 o) := Rngs.later Ho29.out hb30
      have Hn30 : Hid (Rngs w30 v30 nn) := hv30
      have HL30 : Hid (Below w.heap.size w w30) := HL29.out.trans (hb30.mono HL29.out.size)
      clear Hj29 Hm29 Hb29 Ho29 hv30 HL29 hb30
      go_wp2_with fail
      refine Calls.mono (same_of w30 Hm30.out Hn30.out HEm.out HSm.out) ?_
      rintro e w31 ⟨rfl, hb31⟩
      have Hj31 : Hid (Rngs w31 v4 j) := Rngs.later Hj30.out hb31
      have Hm31 : Hid (Rngs w31 v5 m) := Rngs.later Hm30.out hb31
      have Hb31 : Hid (Rngs w31 v3 b) := Rngs.later Hb30.out hb31
      have Ho31 : Hid (Rngs w31 v28 o) := Rngs.later Ho30.out hb31
      have Hn31 : Hid (Rngs w31 v30 nn) := Rngs.later Hn30.out hb31
      have HL31 : Hid (Below w.heap.size w w31) := HL30.out.trans (hb31.mono HL30.out.size)
      clear Hj30 Hm30 Hb30 Ho30 Hn30 HL30 hb31
      go_wp2
      go_ret
      exact ⟨rfl, HL31.out⟩
theorem spanSets_walk (x y : Int) (h : Bool) (W : World) (wx : (Lit.int .u64 x).wf = true) (wy : (Lit.int .u64 y).wf = true) :
    Calls Try.prog 5 #[.int .u64 x, .int .u64 y, .bool h] W fun e W' => e = .returned (.bool true) ∧ Below W.heap.size W W' := by
  cases h with
  | false => exact spanSets_low x y W (bounds_u64 wx) (bounds_u64 wy)
  | true => exact spanSets_high x y W (bounds_u64 wx) (bounds_u64 wy)
end Go.Proofs.Ytnkjfenibgiaaaa
