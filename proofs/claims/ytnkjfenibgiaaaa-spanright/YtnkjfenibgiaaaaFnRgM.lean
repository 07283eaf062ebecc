/-
  Walks of span.Add, span.Minus.
-/
import Derived.Test.YtnkjfenibgiaaaaFnRgJ
import Derived.Test.YtnkjfenibgiaaaaFnRgR
import Derived.Deep.Cut
namespace Go.Proofs.Ytnkjfenibgiaaaa
open Go.RowKit NumMath
open SpanMath (Rg)
set_option maxRecDepth 100000
set_option linter.unusedVariables false
set_option linter.unusedSimpArgs false

set_option maxHeartbeats 4000000 in
theorem rgAdd_row (a1 : Option Addr) (xs : List Rg) (c1 : Nat) (r : Rg) (w : World) (h1 : GRow w a1 xs) (hc1 : xs.length ≤ c1) (hm1 : c1 ≤ maxLen) (hn1 : a1 = none → c1 = 0) (hf1 : ∀ r ∈ xs, SpanMath.Fit r) (hfr : SpanMath.Fit r) (hl1 : xs.length ≤ 1000000000) :
    Calls Try.prog 23 #[.slice a1 xs.length c1, .agg #[.int .i64 r.f, .int .i64 r.t]] w fun e w' => ∃ v, e = .returned v ∧ GOwn w' w.heap.size v (SpanMath.add xs r) ∧ Below w.heap.size w w' := by
  have HX0 : Hid (RgAt (w.alloc (.cells #[.int .i64 r.f, .int .i64 r.t] 24)) w.heap.size r) := RgAt.new w r rfl
  have hb : Below w.heap.size w (w.alloc (.cells #[.int .i64 r.f, .int .i64 r.t] 24)) := (Below.refl _ _).alloc (Nat.le_refl _) _
  have HB0 : Hid _ := hb
  have HJ : Hid (∀ w0, Below w.heap.size w w0 → _) := fun w0 hB => rgJoin_row a1 (some ⟨w0.heap.size, 0, none⟩) xs [r] c1 1 (w0.alloc (.cells #[.int .i64 r.f, .int .i64 r.t] 24)) (h1.later (hB.alloc (by have := hB.size; omega) _)) (lit_rngs w0 [r] rfl) hc1 (Nat.le_refl 1) hm1 (by decide) hn1 (by simp) hf1 (by simpa using hfr) hl1 (by simp)
  rw [SpanMath.join_one] at HJ
  generalize SpanMath.add xs r = J at *
  generalize xs.length = n1 at *
  clear hb h1 hf1 hfr hn1
  go_enter Try.func23, Try.ntmps23
  go_upto_region 1 with (fail)
  generalize w.alloc (.cells #[.int .i64 r.f, .int .i64 r.t] 24) = w0 at *
  obtain ⟨x0, x1⟩ := HX0.out.cells
  have HJ0 : Hid _ := HJ.out w0 HB0.out
  have HBl : Hid (Below w.heap.size w (w0.alloc (.cells #[.int .i64 r.f, .int .i64 r.t] 24))) := HB0.out.alloc HB0.out.size _
  clear HJ
  go_wp2_with fail
  refine Calls.mono HJ0.out ?_
  rintro e w2 ⟨v, rfl, hO, hb2⟩
  have HO : Hid (GOwn w2 w.heap.size v J) := hO.mono HBl.out.size
  have HB2 : Hid (Below w.heap.size w w2) := HBl.out.trans (hb2.mono HBl.out.size)
  clear hO hb2
  go_wp2
  go_ret
  exact ⟨_, rfl, HO.out, HB2.out⟩
set_option maxHeartbeats 8000000 in
theorem rgMinus_row (a1 a2 : Option Addr) (xs ys : List Rg) (c1 c2 : Nat) (w : World) (h1 : GRow w a1 xs) (h2 : GRow w a2 ys) (hc1 : xs.length ≤ c1) (hc2 : ys.length ≤ c2) (hm1 : c1 ≤ maxLen) (hm2 : c2 ≤ maxLen) (hn1 : a1 = none → c1 = 0) (hn2 : a2 = none → c2 = 0) (hf1 : ∀ r ∈ xs, SpanMath.Fit r) (hf2 : ∀ r ∈ ys, SpanMath.Fit r) (hl1 : xs.length ≤ 100000000) (hl2 : ys.length ≤ 100000000) :
    Calls Try.prog 21 #[.slice a1 xs.length c1, .slice a2 ys.length c2] w fun e w' => ∃ v, e = .returned v ∧ GOwn w' w.heap.size v (SpanMath.minus xs ys) ∧ Below w.heap.size w w' := by
  have HX : Hid (∀ w', Below w.heap.size w w' → _) := fun w' (hB : Below w.heap.size w w') => rgRight_row a1 xs c1 w' (h1.later hB) hc1 hm1 hf1
  have HY : Hid (∀ w', Below w.heap.size w w' → _) := fun w' (hB : Below w.heap.size w w') => rgRight_row a2 ys c2 w' (h2.later hB) hc2 hm2 hf2
  cases hqx : SpanMath.right xs with
  | false =>
    rw [hqx] at HX
    have HN : Hid (SpanMath.minus xs ys = []) := by show _ = _; unfold SpanMath.minus; rw [if_neg (by rw [hqx]; simp)]
    rw [HN.out]
    clear HY hqx
    generalize xs.length = n1 at *
    generalize ys.length = n2 at *
    clear h1 h2 hf1 hf2 hn1 hn2
    go_enter Try.func21, Try.ntmps21
    go_wp2_with fail
    refine Calls.mono (HX.out _ (Below.refl _ _)) ?_
    rintro e w1 ⟨rfl, hb1⟩
    have HB1 : Hid _ := hb1
    clear hb1
    go_wp2
    go_ret
    exact ⟨_, rfl, GOwn.nil _ _, HB1.out⟩
  | true =>
    rw [hqx] at HX
    cases hqy : SpanMath.right ys with
    | false =>
      rw [hqy] at HY
      have HN : Hid (SpanMath.minus xs ys = []) := by show _ = _; unfold SpanMath.minus; rw [if_neg (by rw [hqy]; simp)]
      rw [HN.out]
      clear hqx hqy
      generalize xs.length = n1 at *
      generalize ys.length = n2 at *
      clear h1 h2 hf1 hf2 hn1 hn2
      go_enter Try.func21, Try.ntmps21
      go_wp2_with fail
      refine Calls.mono (HX.out _ (Below.refl _ _)) ?_
      rintro e w1 ⟨rfl, hb1⟩
      have HB1 : Hid _ := hb1
      clear hb1
      go_wp2_with fail
      refine Calls.mono (HY.out _ HB1.out) ?_
      rintro e w2 ⟨rfl, hb2⟩
      have HB2 : Hid _ := HB1.out.trans (hb2.mono HB1.out.size)
      clear hb2
      go_wp2
      go_ret
      exact ⟨_, rfl, GOwn.nil _ _, HB2.out⟩
    | true =>
      rw [hqy] at HY
      have hRx := (SpanMath.right_iff xs).1 hqx
      have hRy := (SpanMath.right_iff ys).1 hqy
      have HR1 : Hid (∀ w', Below w.heap.size w w' → _) := fun w' (hB : Below w.heap.size w w') => rest_own a1 xs c1 w' (h1.later hB) hc1 hm1 hRx
      have hRr := (SpanMath.rest_spec hRx).1
      have hRj := SpanMath.join_R hRr hRy
      have hrl := SpanMath.rest_len xs
      have HJn : Hid (∀ w' a c, Below w.heap.size w w' → GRow w' a (SpanMath.rest xs) → (SpanMath.rest xs).length ≤ c → c ≤ maxLen → (a = none → c = 0) → _) := fun w' a c hB hr hc hm hn => rgJoin_row a a2 (SpanMath.rest xs) ys c c2 w' hr (h2.later hB) hc hc2 hm hm2 hn hn2 (fun r hr => SpanMath.ok_fit (hRr.1 r hr)) hf2 (by omega) (by omega)
      have HR2 : Hid (∀ w' a c, GRow w' a (SpanMath.join (SpanMath.rest xs) ys) → (SpanMath.join (SpanMath.rest xs) ys).length ≤ c → c ≤ maxLen → _) := fun w' a c hr hc hm => rest_own a (SpanMath.join (SpanMath.rest xs) ys) c w' hr hc hm hRj
      rw [← SpanMath.rest_is_minus hRx hRy]
      have HJn2 := HJn
      have HR22 := HR2
      clear HJn HR2
      generalize SpanMath.rest (SpanMath.join (SpanMath.rest xs) ys) = D at *
      generalize SpanMath.join (SpanMath.rest xs) ys = J at *
      generalize SpanMath.rest xs = Rx at *
      generalize xs.length = n1 at *
      generalize ys.length = n2 at *
      clear h1 h2 hqx hqy hf1 hf2 hn1 hn2 hRx hRy hRr hRj hrl
      go_enter Try.func21, Try.ntmps21
      go_wp2_with fail
      refine Calls.mono (HX.out _ (Below.refl _ _)) ?_
      rintro e w1 ⟨rfl, hb1⟩
      have HB1 : Hid _ := hb1
      clear hb1
      go_wp2_with fail
      refine Calls.mono (HY.out _ HB1.out) ?_
      rintro e w2 ⟨rfl, hb2⟩
      have HB2 : Hid (Below w.heap.size w w2) := HB1.out.trans (hb2.mono HB1.out.size)
      clear hb2 HB1 HX HY
      go_wp2_with fail
      refine Calls.mono (HR1.out _ HB2.out) ?_
      rintro e w3 ⟨v3, rfl, hO3, hb3⟩
      have HB3 : Hid (Below w.heap.size w w3) := HB2.out.trans (hb3.mono HB2.out.size)
      obtain ⟨a3, c3, rfl, hr3, hc3, hm3, hn3⟩ := hO3.ranges
      have HJ3 : Hid _ := HJn2.out w3 a3 c3 HB3.out hr3 hc3 hm3 hn3
      clear hO3 hb3 hr3 hc3 hm3 hn3 HB2 HR1 HJn2
      generalize Rx.length = n3 at *
      go_wp2_with fail
      refine Calls.mono HJ3.out ?_
      rintro e w4 ⟨v4, rfl, hO4, hb4⟩
      have HB4 : Hid (Below w.heap.size w w4) := HB3.out.trans (hb4.mono HB3.out.size)
      obtain ⟨a4, c4, rfl, hr4, hc4, hm4, hn4⟩ := hO4.ranges
      have HR4 : Hid _ := HR22.out w4 a4 c4 hr4 hc4 hm4
      clear hO4 hb4 hr4 hc4 hm4 hn4 HB3 HJ3 HR22
      generalize J.length = n4 at *
      go_wp2_with fail
      refine Calls.mono HR4.out ?_
      rintro e w5 ⟨v5, rfl, hO5, hb5⟩
      have HO5 : Hid (GOwn w5 w.heap.size v5 D) := hO5.mono HB4.out.size
      have HB5 : Hid (Below w.heap.size w w5) := HB4.out.trans (hb5.mono HB4.out.size)
      clear hO5 hb5
      go_wp2
      go_ret
      exact ⟨_, rfl, HO5.out, HB5.out⟩
end Go.Proofs.Ytnkjfenibgiaaaa
