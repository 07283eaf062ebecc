/-
  Walk of newsreellaw10.known.
-/
import Derived.Test.YtnkjfenibgiaaaaSpanFace
import Derived.Test.YtnkjfenibgiaaaaL10Kit
import Derived.Deep.Cut
namespace Go.Proofs.Ytnkjfenibgiaaaa
open Go.RowKit NumMath
open SpanMath (Rg)
set_option maxRecDepth 100000
set_option linter.unusedVariables false
set_option linter.unusedSimpArgs false

theorem k_of : SpanMath.ofTo [5, 1, 2, 0] = [⟨1, 2⟩, ⟨5, 5⟩] := by kernel_rfl
theorem k_join : SpanMath.join [⟨1, 2⟩, ⟨5, 5⟩] [⟨3, 4⟩] = [⟨1, 5⟩] := by kernel_rfl
theorem k_minus : SpanMath.minus [⟨1, 5⟩] [⟨2, 4⟩] = [⟨1, 1⟩, ⟨5, 5⟩] := by kernel_rfl
theorem k_count : SpanMath.count [⟨1, 1⟩, ⟨5, 5⟩] = 2 := by kernel_rfl
theorem k_first : SpanMath.first [⟨1, 5⟩] = 5 := by kernel_rfl
theorem k_right : SpanMath.right [⟨1, 5⟩] = true := by kernel_rfl
theorem k_wrong : SpanMath.right [⟨0, 0⟩] = false := by kernel_rfl
theorem k_has : SpanMath.has [⟨1, 5⟩] 3 = true := by kernel_rfl
theorem k_add : SpanMath.add [⟨1, 1⟩, ⟨5, 5⟩] ⟨2, 9⟩ = [⟨1, 9⟩] := by kernel_rfl
def fitB (r : Rg) : Bool := decide (-9223372036854775808 ≤ r.f ∧ r.f ≤ 9223372036854775807 ∧ -9223372036854775808 ≤ r.t ∧ r.t ≤ 9223372036854775807)
theorem fits (l : List Rg) (h : l.all fitB = true) : ∀ r ∈ l, SpanMath.Fit r := fun r hr => by
  have := List.all_eq_true.1 h r hr
  simp only [fitB, decide_eq_true_eq] at this
  unfold SpanMath.Fit; omega
theorem rngs_lit {w : World} {v : Value} {ds : List Rg} (h : Rngs w v ds) (hn : 0 < ds.length) : ∃ b o c, v = .slice (some ⟨b, o, none⟩) ds.length c ∧ GRow w (some ⟨b, o, none⟩) ds ∧ ds.length ≤ c ∧ c ≤ maxLen := by
  obtain ⟨a, c, rfl, hr, hc, hm, _⟩ := h
  obtain ⟨b, o, rfl, _⟩ := hr.at hn
  exact ⟨b, o, c, rfl, hr, hc, hm⟩
set_option maxHeartbeats 8000000 in
theorem known_any (w : World) : Calls Try.prog 9 #[] w fun r w' => r = .returned (.bool true) ∧ Below w.heap.size w w' := by
  have HOf : Hid (∀ w : World, Calls Try.prog 24 #[.slice (some ⟨w.heap.size, 0, none⟩) 4 4] (w.alloc (.cells #[.int .i64 5, .int .i64 1, .int .i64 2, .int .i64 0] 2)) fun r w' => ∃ b o c, r = .returned (.slice (some ⟨b, o, none⟩) 2 c) ∧ GRow w' (some ⟨b, o, none⟩) [⟨1, 2⟩, ⟨5, 5⟩] ∧ 2 ≤ c ∧ c ≤ maxLen ∧ Below w.heap.size w w') := fun w => by
    have hb : Below w.heap.size w (w.alloc (.cells #[.int .i64 5, .int .i64 1, .int .i64 2, .int .i64 0] 2)) := (Below.refl _ _).alloc (Nat.le_refl _) _
    have h := spanOf_any (some ⟨w.heap.size, 0, none⟩) [5, 1, 2, 0] 4 (w.alloc (.cells #[.int .i64 5, .int .i64 1, .int .i64 2, .int .i64 0] 2)) (lit_row w .i64 [5, 1, 2, 0] 2 _ rfl) (by decide) (by decide) (by decide)
    rw [k_of] at h
    refine h.mono ?_
    rintro r w' ⟨v, rfl, hd, hbl⟩
    obtain ⟨b, o, c, rfl, h1, h2, h3⟩ := rngs_lit hd (by decide)
    exact ⟨b, o, c, rfl, h1, h2, h3, hb.trans (hbl.mono hb.size)⟩
  have HJo : Hid (∀ (b o c : Nat) (w : World), GRow w (some ⟨b, o, none⟩) [⟨1, 2⟩, ⟨5, 5⟩] → 2 ≤ c → c ≤ maxLen → Calls Try.prog 19 #[.slice (some ⟨b, o, none⟩) 2 c, .slice (some ⟨w.heap.size, 0, none⟩) 1 1] (w.alloc (.cells #[.int .i64 3, .int .i64 4] 24)) fun r w' => ∃ b o c, r = .returned (.slice (some ⟨b, o, none⟩) 1 c) ∧ GRow w' (some ⟨b, o, none⟩) [⟨1, 5⟩] ∧ 1 ≤ c ∧ c ≤ maxLen ∧ Below w.heap.size w w') := fun b o c w hr hc hm => by
    have hb : Below w.heap.size w (w.alloc (.cells #[.int .i64 3, .int .i64 4] 24)) := (Below.refl _ _).alloc (Nat.le_refl _) _
    have h := spanJoin_any (.slice (some ⟨b, o, none⟩) 2 c) (.slice (some ⟨w.heap.size, 0, none⟩) 1 1) [⟨1, 2⟩, ⟨5, 5⟩] [⟨3, 4⟩] (w.alloc (.cells #[.int .i64 3, .int .i64 4] 24)) ⟨_, c, rfl, hr.later hb, hc, hm, by simp⟩ ⟨_, 1, rfl, lit_rngs w [⟨3, 4⟩] rfl, Nat.le_refl _, by decide, by simp⟩ (fits [⟨1, 2⟩, ⟨5, 5⟩] (by decide)) (fits [⟨3, 4⟩] (by decide)) (by decide) (by decide)
    rw [k_join] at h
    refine h.mono ?_
    rintro r w' ⟨v, rfl, hd, hbl⟩
    obtain ⟨b, o, c, rfl, h1, h2, h3⟩ := rngs_lit hd (by decide)
    exact ⟨b, o, c, rfl, h1, h2, h3, hb.trans (hbl.mono hb.size)⟩
  have HMi : Hid (∀ (b o c : Nat) (w : World), GRow w (some ⟨b, o, none⟩) [⟨1, 5⟩] → 1 ≤ c → c ≤ maxLen → Calls Try.prog 21 #[.slice (some ⟨b, o, none⟩) 1 c, .slice (some ⟨w.heap.size, 0, none⟩) 1 1] (w.alloc (.cells #[.int .i64 2, .int .i64 4] 24)) fun r w' => ∃ b o c, r = .returned (.slice (some ⟨b, o, none⟩) 2 c) ∧ GRow w' (some ⟨b, o, none⟩) [⟨1, 1⟩, ⟨5, 5⟩] ∧ 2 ≤ c ∧ c ≤ maxLen ∧ Below w.heap.size w w') := fun b o c w hr hc hm => by
    have hb : Below w.heap.size w (w.alloc (.cells #[.int .i64 2, .int .i64 4] 24)) := (Below.refl _ _).alloc (Nat.le_refl _) _
    have h := spanMinus_any (.slice (some ⟨b, o, none⟩) 1 c) (.slice (some ⟨w.heap.size, 0, none⟩) 1 1) [⟨1, 5⟩] [⟨2, 4⟩] (w.alloc (.cells #[.int .i64 2, .int .i64 4] 24)) ⟨_, c, rfl, hr.later hb, hc, hm, by simp⟩ ⟨_, 1, rfl, lit_rngs w [⟨2, 4⟩] rfl, Nat.le_refl _, by decide, by simp⟩ (fits [⟨1, 5⟩] (by decide)) (fits [⟨2, 4⟩] (by decide)) (by decide) (by decide)
    rw [k_minus] at h
    refine h.mono ?_
    rintro r w' ⟨v, rfl, hd, hbl⟩
    obtain ⟨b, o, c, rfl, h1, h2, h3⟩ := rngs_lit hd (by decide)
    exact ⟨b, o, c, rfl, h1, h2, h3, hb.trans (hbl.mono hb.size)⟩
  have HCo : Hid (∀ (b o c : Nat) (w : World), GRow w (some ⟨b, o, none⟩) [⟨1, 1⟩, ⟨5, 5⟩] → 2 ≤ c → c ≤ maxLen → Calls Try.prog 14 #[.slice (some ⟨b, o, none⟩) 2 c] w fun r w' => r = .returned (.int .i64 2) ∧ Below w.heap.size w w') := fun b o c w hr hc hm => by
    have h := spanCount_any (.slice (some ⟨b, o, none⟩) 2 c) [⟨1, 1⟩, ⟨5, 5⟩] w ⟨_, c, rfl, hr, hc, hm, by simp⟩ (fits [⟨1, 1⟩, ⟨5, 5⟩] (by decide))
    rw [k_count] at h
    exact h
  have HFi : Hid (∀ (b o c : Nat) (w : World), GRow w (some ⟨b, o, none⟩) [⟨1, 5⟩] → 1 ≤ c → c ≤ maxLen → Calls Try.prog 16 #[.slice (some ⟨b, o, none⟩) 1 c] w fun r w' => r = .returned (.int .i64 5) ∧ Below w.heap.size w w') := fun b o c w hr hc hm => by
    have h := spanFirst_any (.slice (some ⟨b, o, none⟩) 1 c) [⟨1, 5⟩] w ⟨_, c, rfl, hr, hc, hm, by simp⟩ (fits [⟨1, 5⟩] (by decide))
    rw [k_first] at h
    exact h
  have HRi : Hid (∀ (b o c : Nat) (w : World), GRow w (some ⟨b, o, none⟩) [⟨1, 5⟩] → 1 ≤ c → c ≤ maxLen → Calls Try.prog 10 #[.slice (some ⟨b, o, none⟩) 1 c] w fun r w' => r = .returned (.bool true) ∧ Below w.heap.size w w') := fun b o c w hr hc hm => by
    have h := spanRight_any (.slice (some ⟨b, o, none⟩) 1 c) [⟨1, 5⟩] w ⟨_, c, rfl, hr, hc, hm, by simp⟩ (fits [⟨1, 5⟩] (by decide))
    rw [k_right] at h
    exact h
  have HHa : Hid (∀ (b o c : Nat) (w : World), GRow w (some ⟨b, o, none⟩) [⟨1, 5⟩] → 1 ≤ c → c ≤ maxLen → Calls Try.prog 12 #[.slice (some ⟨b, o, none⟩) 1 c, .int .i64 3] w fun r w' => r = .returned (.bool true) ∧ Below w.heap.size w w') := fun b o c w hr hc hm => by
    have h := spanHas_any (.slice (some ⟨b, o, none⟩) 1 c) [⟨1, 5⟩] 3 w ⟨_, c, rfl, hr, hc, hm, by simp⟩ (fits [⟨1, 5⟩] (by decide)) (by decide) (by decide)
    rw [k_has] at h
    exact h
  have HRz : Hid (∀ w : World, Calls Try.prog 10 #[.slice (some ⟨w.heap.size, 0, none⟩) 1 1] (w.alloc (.cells #[.int .i64 0, .int .i64 0] 24)) fun r w' => r = .returned (.bool false) ∧ Below w.heap.size w w') := fun w => by
    have hb : Below w.heap.size w (w.alloc (.cells #[.int .i64 0, .int .i64 0] 24)) := (Below.refl _ _).alloc (Nat.le_refl _) _
    have h := spanRight_any (.slice (some ⟨w.heap.size, 0, none⟩) 1 1) [⟨0, 0⟩] (w.alloc (.cells #[.int .i64 0, .int .i64 0] 24)) ⟨_, 1, rfl, lit_rngs w [⟨0, 0⟩] rfl, Nat.le_refl _, by decide, by simp⟩ (fits [⟨0, 0⟩] (by decide))
    rw [k_wrong] at h
    refine h.mono ?_
    rintro r w' ⟨rfl, hbl⟩
    exact ⟨rfl, hb.trans (hbl.mono hb.size)⟩
  have HAd : Hid (∀ (b o c : Nat) (w : World), GRow w (some ⟨b, o, none⟩) [⟨1, 1⟩, ⟨5, 5⟩] → 2 ≤ c → c ≤ maxLen → Calls Try.prog 23 #[.slice (some ⟨b, o, none⟩) 2 c, .agg #[.int .i64 2, .int .i64 9]] w fun r w' => ∃ b o c, r = .returned (.slice (some ⟨b, o, none⟩) 1 c) ∧ GRow w' (some ⟨b, o, none⟩) [⟨1, 9⟩] ∧ 1 ≤ c ∧ c ≤ maxLen ∧ Below w.heap.size w w') := fun b o c w hr hc hm => by
    have h := spanAdd_any (.slice (some ⟨b, o, none⟩) 2 c) [⟨1, 1⟩, ⟨5, 5⟩] ⟨2, 9⟩ w ⟨_, c, rfl, hr, hc, hm, by simp⟩ (fits [⟨1, 1⟩, ⟨5, 5⟩] (by decide)) (fits [⟨2, 9⟩] (by decide) _ (by simp)) (by decide)
    rw [k_add] at h
    refine h.mono ?_
    rintro r w' ⟨v, rfl, hd, hbl⟩
    obtain ⟨b, o, c, rfl, h1, h2, h3⟩ := rngs_lit hd (by decide)
    exact ⟨b, o, c, rfl, h1, h2, h3, hbl⟩
  have HL0 : Hid (Below w.heap.size w w) := Below.refl _ _
  have HMx : Hid (maxLen = 9223372036854775807) := rfl
  go_enter Try.func9, Try.ntmps9
  go_wp2_with fail
  refine Calls.mono (HOf.out _) ?_
  rintro e w1 ⟨bl, ol, cl, rfl, hl, cl1, cl2, hb1⟩
  have HL1 : Hid (Below w.heap.size w w1) := HL0.out.trans (hb1.mono HL0.out.size)
  clear hb1 HL0
  have Hl1 : Hid (GRow w1 _ _) := hl
  clear hl
  have HCl : Hid _ := cl1
  have HDl : Hid _ := cl2
  clear cl2
  go_wp2_with fail
  refine Calls.mono (HJo.out bl ol cl _ Hl1.out HCl.out HDl.out) ?_
  rintro e w2 ⟨bj, oj, cj, rfl, hj, cj1, cj2, hb2⟩
  have HL2 : Hid (Below w.heap.size w w2) := HL1.out.trans (hb2.mono HL1.out.size)
  have Hl2 : Hid (GRow w2 _ _) := GRow.later Hl1.out hb2
  clear Hl1
  clear hb2 HL1
  have Hj2 : Hid (GRow w2 _ _) := hj
  clear hj
  have HCj : Hid _ := cj1
  have HDj : Hid _ := cj2
  clear cj2
  go_wp2_with fail
  refine Calls.mono (HMi.out bj oj cj _ Hj2.out HCj.out HDj.out) ?_
  rintro e w3 ⟨bm, om, cm, rfl, hm, cm1, cm2, hb3⟩
  have HL3 : Hid (Below w.heap.size w w3) := HL2.out.trans (hb3.mono HL2.out.size)
  have Hl3 : Hid (GRow w3 _ _) := GRow.later Hl2.out hb3
  clear Hl2
  have Hj3 : Hid (GRow w3 _ _) := GRow.later Hj2.out hb3
  clear Hj2
  clear hb3 HL2
  have Hm3 : Hid (GRow w3 _ _) := hm
  clear hm
  have HCm : Hid _ := cm1
  have HDm : Hid _ := cm2
  clear cm2
  have hdl := HDl.out
  have hdj := HDj.out
  have hdm := HDm.out
  unfold maxLen at hdl hdj hdm
  have l0 := GRow.cells Hl3.out (i := 0) (by decide)
  have l1 := GRow.cells Hl3.out (i := 1) (by decide)
  have j0 := GRow.cells Hj3.out (i := 0) (by decide)
  simp only [Nat.zero_mul, Nat.add_zero, Nat.one_mul, List.getElem?_cons_zero, List.getElem?_cons_succ, Option.getD_some] at l0 l1 j0
  obtain ⟨l00, l01⟩ := l0
  obtain ⟨l10, l11⟩ := l1
  obtain ⟨j00, j01⟩ := j0
  have q1 : (0 : Int) < (cl : Int) := by omega
  have q2 : (1 : Int) < (cl : Int) := by omega
  have q3 : (0 : Int) < (cj : Int) := by omega
  go_wp2_with fail
  refine Calls.mono (HCo.out bm om cm _ Hm3.out HCm.out HDm.out) ?_
  rintro e w4 ⟨rfl, hb4⟩
  have HL4 : Hid (Below w.heap.size w w4) := HL3.out.trans (hb4.mono HL3.out.size)
  have Hj4 : Hid (GRow w4 _ _) := GRow.later Hj3.out hb4
  clear Hj3
  have Hm4 : Hid (GRow w4 _ _) := GRow.later Hm3.out hb4
  clear Hm3
  clear hb4 HL3
  go_wp2_with fail
  refine Calls.mono (HFi.out bj oj cj _ Hj4.out HCj.out HDj.out) ?_
  rintro e w5 ⟨rfl, hb5⟩
  have HL5 : Hid (Below w.heap.size w w5) := HL4.out.trans (hb5.mono HL4.out.size)
  have Hj5 : Hid (GRow w5 _ _) := GRow.later Hj4.out hb5
  clear Hj4
  have Hm5 : Hid (GRow w5 _ _) := GRow.later Hm4.out hb5
  clear Hm4
  clear hb5 HL4
  go_wp2_with fail
  refine Calls.mono (HRi.out bj oj cj _ Hj5.out HCj.out HDj.out) ?_
  rintro e w6 ⟨rfl, hb6⟩
  have HL6 : Hid (Below w.heap.size w w6) := HL5.out.trans (hb6.mono HL5.out.size)
  have Hj6 : Hid (GRow w6 _ _) := GRow.later Hj5.out hb6
  clear Hj5
  have Hm6 : Hid (GRow w6 _ _) := GRow.later Hm5.out hb6
  clear Hm5
  clear hb6 HL5
  go_wp2_with fail
  refine Calls.mono (HRz.out _) ?_
  rintro e w7 ⟨rfl, hb7⟩
  have HL7 : Hid (Below w.heap.size w w7) := HL6.out.trans (hb7.mono HL6.out.size)
  have Hj7 : Hid (GRow w7 _ _) := GRow.later Hj6.out hb7
  clear Hj6
  have Hm7 : Hid (GRow w7 _ _) := GRow.later Hm6.out hb7
  clear Hm6
  clear hb7 HL6
  go_wp2_with fail
  refine Calls.mono (HHa.out bj oj cj _ Hj7.out HCj.out HDj.out) ?_
  rintro e w8 ⟨rfl, hb8⟩
  have HL8 : Hid (Below w.heap.size w w8) := HL7.out.trans (hb8.mono HL7.out.size)
  have Hj8 : Hid (GRow w8 _ _) := GRow.later Hj7.out hb8
  clear Hj7
  have Hm8 : Hid (GRow w8 _ _) := GRow.later Hm7.out hb8
  clear Hm7
  clear hb8 HL7
  go_wp2_with fail
  refine Calls.mono (HAd.out bm om cm _ Hm8.out HCm.out HDm.out) ?_
  rintro e w9 ⟨bx, ox, cx, rfl, hx, cx1, cx2, hb9⟩
  have HL9 : Hid (Below w.heap.size w w9) := HL8.out.trans (hb9.mono HL8.out.size)
  clear hb9 HL8
  go_wp2
  go_ret
  exact ⟨rfl, HL9.out⟩
end Go.Proofs.Ytnkjfenibgiaaaa
