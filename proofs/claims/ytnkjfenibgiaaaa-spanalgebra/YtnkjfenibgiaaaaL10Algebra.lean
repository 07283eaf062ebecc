/-
  Walk of newsreellaw10.SpanAlgebra.
-/
import Derived.Test.YtnkjfenibgiaaaaL10Known
import Derived.Test.YtnkjfenibgiaaaaL10Kit
import Derived.OpenShut
namespace Go.Proofs.Ytnkjfenibgiaaaa
open Go.RowKit NumMath
open SpanMath (Rg)
set_option maxRecDepth 100000
set_option linter.unusedVariables false
set_option linter.unusedSimpArgs false

set_option maxHeartbeats 16000000 in
theorem spanAlgebra_any (x y z : Int) (w : World) (hx : 0 ≤ x ∧ x ≤ 18446744073709551615) (hy : 0 ≤ y ∧ y ≤ 18446744073709551615) (hz : 0 ≤ z ∧ z ≤ 18446744073709551615) :
    Calls Try.prog 6 #[.int .u64 x, .int .u64 y, .int .u64 z] w fun e w' => e = .returned (.bool true) ∧ Below w.heap.size w w' := by
  have HL0 : Hid (Below w.heap.size w w) := Below.refl _ _
  have Sa : Sl (SpanMath.B x 0) := Sl.bits x 0 (by decide) (by decide)
  have Sb : Sl (SpanMath.B y 20) := Sl.bits y 20 (by decide) (by decide)
  have Sc : Sl (SpanMath.B z 7) := Sl.bits z 7 (by decide) (by decide)
  have HBx : Hid (∀ w, _) := fun w => bits_rngs x 0 w hx (by decide)
  have HBy : Hid (∀ w, _) := fun w => bits_rngs y 20 w hy (by decide)
  have HBz : Hid (∀ w, _) := fun w => bits_rngs z 7 w hz (by decide)
  generalize SpanMath.B x 0 = a at *
  generalize SpanMath.B y 20 = b at *
  generalize SpanMath.B z 7 = c at *
  go_enter Try.func6, Try.ntmps6
  go_wp2_with fail
  refine Calls.mono (known_any w) ?_
  rintro e w1 ⟨rfl, hb1⟩
  have HL1 : Hid (Below w.heap.size w w1) := HL0.out.trans (hb1.mono HL0.out.size)
  clear HL0 hb1
  go_wp2_with fail
  refine Calls.mono (HBx.out w1) ?_
  rintro e w2 ⟨v2, rfl, hv2, hb2⟩
  have Ha2 : Hid (Rngs w2 v2 a) := hv2
  have HL2 : Hid (Below w.heap.size w w2) := HL1.out.trans (hb2.mono HL1.out.size)
  clear hv2 HL1 hb2
  go_wp2_with fail
  refine Calls.mono (HBy.out w2) ?_
  rintro e w3 ⟨v3, rfl, hv3, hb3⟩
  have Ha3 : Hid (Rngs w3 v2 a) := Rngs.later Ha2.out hb3
  have Hb3 : Hid (Rngs w3 v3 b) := hv3
  have HL3 : Hid (Below w.heap.size w w3) := HL2.out.trans (hb3.mono HL2.out.size)
  clear Ha2 hv3 HL2 hb3
  go_wp2_with fail
  refine Calls.mono (HBz.out w3) ?_
  rintro e w4 ⟨v4, rfl, hv4, hb4⟩
  have Ha4 : Hid (Rngs w4 v2 a) := Rngs.later Ha3.out hb4
  have Hb4 : Hid (Rngs w4 v3 b) := Rngs.later Hb3.out hb4
  have Hc4 : Hid (Rngs w4 v4 c) := hv4
  have HL4 : Hid (Below w.heap.size w w4) := HL3.out.trans (hb4.mono HL3.out.size)
  clear Ha3 Hb3 hv4 HL3 hb4
  go_wp2_with fail
  refine Calls.mono (spanJoin_any v2 v3 a b w4 Ha4.out Hb4.out Sa.fit Sb.fit Sa.many Sb.many) ?_
  rintro e w5 ⟨v5, rfl, hv5, hb5⟩
  have Ha5 : Hid (Rngs w5 v2 a) := Rngs.later Ha4.out hb5
  have Hb5 : Hid (Rngs w5 v3 b) := Rngs.later Hb4.out hb5
  have Hc5 : Hid (Rngs w5 v4 c) := Rngs.later Hc4.out hb5
  have Hj5 : Hid (Rngs w5 v5 (SpanMath.join a b)) := hv5
  have HL5 : Hid (Below w.heap.size w w5) := HL4.out.trans (hb5.mono HL4.out.size)
  clear Ha4 Hb4 Hc4 hv5 HL4 hb5
  go_wp2_with fail
  refine Calls.mono (spanMinus_any v2 v3 a b w5 Ha5.out Hb5.out Sa.fit Sb.fit Sa.many Sb.many) ?_
  rintro e w6 ⟨v6, rfl, hv6, hb6⟩
  have Ha6 : Hid (Rngs w6 v2 a) := Rngs.later Ha5.out hb6
  have Hb6 : Hid (Rngs w6 v3 b) := Rngs.later Hb5.out hb6
  have Hc6 : Hid (Rngs w6 v4 c) := Rngs.later Hc5.out hb6
  have Hj6 : Hid (Rngs w6 v5 (SpanMath.join a b)) := Rngs.later Hj5.out hb6
  have Hm6 : Hid (Rngs w6 v6 (SpanMath.minus a b)) := hv6
  have HL6 : Hid (Below w.heap.size w w6) := HL5.out.trans (hb6.mono HL5.out.size)
  clear Ha5 Hb5 Hc5 Hj5 hv6 HL5 hb6
  go_wp2_with fail
  refine Calls.mono (spanJoin_any v3 v2 b a w6 Hb6.out Ha6.out Sb.fit Sa.fit Sb.many Sa.many) ?_
  rintro e w7 ⟨v7, rfl, hv7, hb7⟩
  have Ha7 : Hid (Rngs w7 v2 a) := Rngs.later Ha6.out hb7
  have Hb7 : Hid (Rngs w7 v3 b) := Rngs.later Hb6.out hb7
  have Hc7 : Hid (Rngs w7 v4 c) := Rngs.later Hc6.out hb7
  have Hj7 : Hid (Rngs w7 v5 (SpanMath.join a b)) := Rngs.later Hj6.out hb7
  have Hm7 : Hid (Rngs w7 v6 (SpanMath.minus a b)) := Rngs.later Hm6.out hb7
  have Ht7 : Hid (Rngs w7 v7 (SpanMath.join b a)) := hv7
  have HL7 : Hid (Below w.heap.size w w7) := HL6.out.trans (hb7.mono HL6.out.size)
  clear Ha6 Hb6 Hc6 Hj6 Hm6 hv7 HL6 hb7
  go_wp2_with fail
  refine Calls.mono (same_of w7 Hj7.out Ht7.out (SpanMath.join_comm Sa.right Sb.right) (Sl.join Sa Sb).sm) ?_
  rintro e w8 ⟨rfl, hb8⟩
  have Ha8 : Hid (Rngs w8 v2 a) := Rngs.later Ha7.out hb8
  have Hb8 : Hid (Rngs w8 v3 b) := Rngs.later Hb7.out hb8
  have Hc8 : Hid (Rngs w8 v4 c) := Rngs.later Hc7.out hb8
  have Hj8 : Hid (Rngs w8 v5 (SpanMath.join a b)) := Rngs.later Hj7.out hb8
  have Hm8 : Hid (Rngs w8 v6 (SpanMath.minus a b)) := Rngs.later Hm7.out hb8
  have Ht8 : Hid (Rngs w8 v7 (SpanMath.join b a)) := Rngs.later Ht7.out hb8
  have HL8 : Hid (Below w.heap.size w w8) := HL7.out.trans (hb8.mono HL7.out.size)
  clear Ha7 Hb7 Hc7 Hj7 Hm7 Ht7 HL7 hb8
  clear Ht8
  go_wp2_with fail
  refine Calls.mono (spanJoin_any v5 v4 (SpanMath.join a b) c w8 Hj8.out Hc8.out (Sl.join Sa Sb).fit Sc.fit (Sl.join Sa Sb).many Sc.many) ?_
  rintro e w9 ⟨v9, rfl, hv9, hb9⟩
  have Ha9 : Hid (Rngs w9 v2 a) := Rngs.later Ha8.out hb9
  have Hb9 : Hid (Rngs w9 v3 b) := Rngs.later Hb8.out hb9
  have Hc9 : Hid (Rngs w9 v4 c) := Rngs.later Hc8.out hb9
  have Hj9 : Hid (Rngs w9 v5 (SpanMath.join a b)) := Rngs.later Hj8.out hb9
  have Hm9 : Hid (Rngs w9 v6 (SpanMath.minus a b)) := Rngs.later Hm8.out hb9
  have Ht9 : Hid (Rngs w9 v9 (SpanMath.join (SpanMath.join a b) c)) := hv9
  have HL9 : Hid (Below w.heap.size w w9) := HL8.out.trans (hb9.mono HL8.out.size)
  clear Ha8 Hb8 Hc8 Hj8 Hm8 hv9 HL8 hb9
  go_wp2_with fail
  refine Calls.mono (spanJoin_any v3 v4 b c w9 Hb9.out Hc9.out Sb.fit Sc.fit Sb.many Sc.many) ?_
  rintro e w10 ⟨v10, rfl, hv10, hb10⟩
  have Ha10 : Hid (Rngs w10 v2 a) := Rngs.later Ha9.out hb10
  have Hb10 : Hid (Rngs w10 v3 b) := Rngs.later Hb9.out hb10
  have Hc10 : Hid (Rngs w10 v4 c) := Rngs.later Hc9.out hb10
  have Hj10 : Hid (Rngs w10 v5 (SpanMath.join a b)) := Rngs.later Hj9.out hb10
  have Hm10 : Hid (Rngs w10 v6 (SpanMath.minus a b)) := Rngs.later Hm9.out hb10
  have Ht10 : Hid (Rngs w10 v9 (SpanMath.join (SpanMath.join a b) c)) := Rngs.later Ht9.out hb10
  have Hu10 : Hid (Rngs w10 v10 (SpanMath.join b c)) := hv10
  have HL10 : Hid (Below w.heap.size w w10) := HL9.out.trans (hb10.mono HL9.out.size)
  clear Ha9 Hb9 Hc9 Hj9 Hm9 Ht9 hv10 HL9 hb10
  go_wp2_with fail
  refine Calls.mono (spanJoin_any v2 v10 a (SpanMath.join b c) w10 Ha10.out Hu10.out Sa.fit (Sl.join Sb Sc).fit Sa.many (Sl.join Sb Sc).many) ?_
  rintro e w11 ⟨v11, rfl, hv11, hb11⟩
  have Ha11 : Hid (Rngs w11 v2 a) := Rngs.later Ha10.out hb11
  have Hb11 : Hid (Rngs w11 v3 b) := Rngs.later Hb10.out hb11
  have Hc11 : Hid (Rngs w11 v4 c) := Rngs.later Hc10.out hb11
  have Hj11 : Hid (Rngs w11 v5 (SpanMath.join a b)) := Rngs.later Hj10.out hb11
  have Hm11 : Hid (Rngs w11 v6 (SpanMath.minus a b)) := Rngs.later Hm10.out hb11
  have Ht11 : Hid (Rngs w11 v9 (SpanMath.join (SpanMath.join a b) c)) := Rngs.later Ht10.out hb11
  have Hu11 : Hid (Rngs w11 v10 (SpanMath.join b c)) := Rngs.later Hu10.out hb11
  have Hv11 : Hid (Rngs w11 v11 (SpanMath.join a (SpanMath.join b c))) := hv11
  have HL11 : Hid (Below w.heap.size w w11) := HL10.out.trans (hb11.mono HL10.out.size)
  clear Ha10 Hb10 Hc10 Hj10 Hm10 Ht10 Hu10 hv11 HL10 hb11
  go_wp2_with fail
  refine Calls.mono (same_of w11 Ht11.out Hv11.out (SpanMath.join_assoc Sa.right Sb.right Sc.right) (Sl.join (Sl.join Sa Sb) Sc).sm) ?_
  rintro e w12 ⟨rfl, hb12⟩
  have Ha12 : Hid (Rngs w12 v2 a) := Rngs.later Ha11.out hb12
  have Hb12 : Hid (Rngs w12 v3 b) := Rngs.later Hb11.out hb12
  have Hc12 : Hid (Rngs w12 v4 c) := Rngs.later Hc11.out hb12
  have Hj12 : Hid (Rngs w12 v5 (SpanMath.join a b)) := Rngs.later Hj11.out hb12
  have Hm12 : Hid (Rngs w12 v6 (SpanMath.minus a b)) := Rngs.later Hm11.out hb12
  have Ht12 : Hid (Rngs w12 v9 (SpanMath.join (SpanMath.join a b) c)) := Rngs.later Ht11.out hb12
  have Hu12 : Hid (Rngs w12 v10 (SpanMath.join b c)) := Rngs.later Hu11.out hb12
  have Hv12 : Hid (Rngs w12 v11 (SpanMath.join a (SpanMath.join b c))) := Rngs.later Hv11.out hb12
  have HL12 : Hid (Below w.heap.size w w12) := HL11.out.trans (hb12.mono HL11.out.size)
  clear Ha11 Hb11 Hc11 Hj11 Hm11 Ht11 Hu11 Hv11 HL11 hb12
  clear Ht12 Hu12 Hv12
  go_wp2_with fail
  refine Calls.mono (spanJoin_any v5 v2 (SpanMath.join a b) a w12 Hj12.out Ha12.out (Sl.join Sa Sb).fit Sa.fit (Sl.join Sa Sb).many Sa.many) ?_
  rintro e w13 ⟨v13, rfl, hv13, hb13⟩
  have Ha13 : Hid (Rngs w13 v2 a) := Rngs.later Ha12.out hb13
  have Hb13 : Hid (Rngs w13 v3 b) := Rngs.later Hb12.out hb13
  have Hc13 : Hid (Rngs w13 v4 c) := Rngs.later Hc12.out hb13
  have Hj13 : Hid (Rngs w13 v5 (SpanMath.join a b)) := Rngs.later Hj12.out hb13
  have Hm13 : Hid (Rngs w13 v6 (SpanMath.minus a b)) := Rngs.later Hm12.out hb13
  have Ht13 : Hid (Rngs w13 v13 (SpanMath.join (SpanMath.join a b) a)) := hv13
  have HL13 : Hid (Below w.heap.size w w13) := HL12.out.trans (hb13.mono HL12.out.size)
  clear Ha12 Hb12 Hc12 Hj12 Hm12 hv13 HL12 hb13
  go_wp2_with fail
  refine Calls.mono (same_of w13 Ht13.out Hj13.out (SpanMath.join_again Sa.right Sb.right) (Sl.join (Sl.join Sa Sb) Sa).sm) ?_
  rintro e w14 ⟨rfl, hb14⟩
  have Ha14 : Hid (Rngs w14 v2 a) := Rngs.later Ha13.out hb14
  have Hb14 : Hid (Rngs w14 v3 b) := Rngs.later Hb13.out hb14
  have Hc14 : Hid (Rngs w14 v4 c) := Rngs.later Hc13.out hb14
  have Hj14 : Hid (Rngs w14 v5 (SpanMath.join a b)) := Rngs.later Hj13.out hb14
  have Hm14 : Hid (Rngs w14 v6 (SpanMath.minus a b)) := Rngs.later Hm13.out hb14
  have Ht14 : Hid (Rngs w14 v13 (SpanMath.join (SpanMath.join a b) a)) := Rngs.later Ht13.out hb14
  have HL14 : Hid (Below w.heap.size w w14) := HL13.out.trans (hb14.mono HL13.out.size)
  clear Ha13 Hb13 Hc13 Hj13 Hm13 Ht13 HL13 hb14
  clear Ht14
  go_wp2_with fail
  refine Calls.mono (spanMinus_any v2 v6 a (SpanMath.minus a b) w14 Ha14.out Hm14.out Sa.fit (Sl.minus Sa Sb).fit Sa.many (Sl.minus Sa Sb).many) ?_
  rintro e w15 ⟨v15, rfl, hv15, hb15⟩
  have Ha15 : Hid (Rngs w15 v2 a) := Rngs.later Ha14.out hb15
  have Hb15 : Hid (Rngs w15 v3 b) := Rngs.later Hb14.out hb15
  have Hc15 : Hid (Rngs w15 v4 c) := Rngs.later Hc14.out hb15
  have Hj15 : Hid (Rngs w15 v5 (SpanMath.join a b)) := Rngs.later Hj14.out hb15
  have Hm15 : Hid (Rngs w15 v6 (SpanMath.minus a b)) := Rngs.later Hm14.out hb15
  have Ht15 : Hid (Rngs w15 v15 (SpanMath.minus a (SpanMath.minus a b))) := hv15
  have HL15 : Hid (Below w.heap.size w w15) := HL14.out.trans (hb15.mono HL14.out.size)
  clear Ha14 Hb14 Hc14 Hj14 Hm14 hv15 HL14 hb15
  go_wp2_with fail
  refine Calls.mono (spanJoin_any v6 v15 (SpanMath.minus a b) (SpanMath.minus a (SpanMath.minus a b)) w15 Hm15.out Ht15.out (Sl.minus Sa Sb).fit (Sl.minus Sa (Sl.minus Sa Sb)).fit (Sl.minus Sa Sb).many (Sl.minus Sa (Sl.minus Sa Sb)).many) ?_
  rintro e w16 ⟨v16, rfl, hv16, hb16⟩
  have Ha16 : Hid (Rngs w16 v2 a) := Rngs.later Ha15.out hb16
  have Hb16 : Hid (Rngs w16 v3 b) := Rngs.later Hb15.out hb16
  have Hc16 : Hid (Rngs w16 v4 c) := Rngs.later Hc15.out hb16
  have Hj16 : Hid (Rngs w16 v5 (SpanMath.join a b)) := Rngs.later Hj15.out hb16
  have Hm16 : Hid (Rngs w16 v6 (SpanMath.minus a b)) := Rngs.later Hm15.out hb16
  have Ht16 : Hid (Rngs w16 v15 (SpanMath.minus a (SpanMath.minus a b))) := Rngs.later Ht15.out hb16
  have Hu16 : Hid (Rngs w16 v16 (SpanMath.join (SpanMath.minus a b) (SpanMath.minus a (SpanMath.minus a b)))) := hv16
  have HL16 : Hid (Below w.heap.size w w16) := HL15.out.trans (hb16.mono HL15.out.size)
  clear Ha15 Hb15 Hc15 Hj15 Hm15 Ht15 hv16 HL15 hb16
  go_wp2_with fail
  refine Calls.mono (same_of w16 Hu16.out Ha16.out (SpanMath.parts_join Sa.right Sb.right) (Sl.join (Sl.minus Sa Sb) (Sl.minus Sa (Sl.minus Sa Sb))).sm) ?_
  rintro e w17 ⟨rfl, hb17⟩
  have Ha17 : Hid (Rngs w17 v2 a) := Rngs.later Ha16.out hb17
  have Hb17 : Hid (Rngs w17 v3 b) := Rngs.later Hb16.out hb17
  have Hc17 : Hid (Rngs w17 v4 c) := Rngs.later Hc16.out hb17
  have Hj17 : Hid (Rngs w17 v5 (SpanMath.join a b)) := Rngs.later Hj16.out hb17
  have Hm17 : Hid (Rngs w17 v6 (SpanMath.minus a b)) := Rngs.later Hm16.out hb17
  have Ht17 : Hid (Rngs w17 v15 (SpanMath.minus a (SpanMath.minus a b))) := Rngs.later Ht16.out hb17
  have Hu17 : Hid (Rngs w17 v16 (SpanMath.join (SpanMath.minus a b) (SpanMath.minus a (SpanMath.minus a b)))) := Rngs.later Hu16.out hb17
  have HL17 : Hid (Below w.heap.size w w17) := HL16.out.trans (hb17.mono HL16.out.size)
  clear Ha16 Hb16 Hc16 Hj16 Hm16 Ht16 Hu16 HL16 hb17
  clear Ht17 Hu17
  go_wp2_with fail
  refine Calls.mono (spanMinus_any v5 v3 (SpanMath.join a b) b w17 Hj17.out Hb17.out (Sl.join Sa Sb).fit Sb.fit (Sl.join Sa Sb).many Sb.many) ?_
  rintro e w18 ⟨v18, rfl, hv18, hb18⟩
  have Ha18 : Hid (Rngs w18 v2 a) := Rngs.later Ha17.out hb18
  have Hb18 : Hid (Rngs w18 v3 b) := Rngs.later Hb17.out hb18
  have Hc18 : Hid (Rngs w18 v4 c) := Rngs.later Hc17.out hb18
  have Hj18 : Hid (Rngs w18 v5 (SpanMath.join a b)) := Rngs.later Hj17.out hb18
  have Hm18 : Hid (Rngs w18 v6 (SpanMath.minus a b)) := Rngs.later Hm17.out hb18
  have Ht18 : Hid (Rngs w18 v18 (SpanMath.minus (SpanMath.join a b) b)) := hv18
  have HL18 : Hid (Below w.heap.size w w18) := HL17.out.trans (hb18.mono HL17.out.size)
  clear Ha17 Hb17 Hc17 Hj17 Hm17 hv18 HL17 hb18
  go_wp2_with fail
  refine Calls.mono (same_of w18 Ht18.out Hm18.out (SpanMath.join_minus Sa.right Sb.right) (Sl.minus (Sl.join Sa Sb) Sb).sm) ?_
  rintro e w19 ⟨rfl, hb19⟩
  have Ha19 : Hid (Rngs w19 v2 a) := Rngs.later Ha18.out hb19
  have Hb19 : Hid (Rngs w19 v3 b) := Rngs.later Hb18.out hb19
  have Hc19 : Hid (Rngs w19 v4 c) := Rngs.later Hc18.out hb19
  have Hj19 : Hid (Rngs w19 v5 (SpanMath.join a b)) := Rngs.later Hj18.out hb19
  have Hm19 : Hid (Rngs w19 v6 (SpanMath.minus a b)) := Rngs.later Hm18.out hb19
  have Ht19 : Hid (Rngs w19 v18 (SpanMath.minus (SpanMath.join a b) b)) := Rngs.later Ht18.out hb19
  have HL19 : Hid (Below w.heap.size w w19) := HL18.out.trans (hb19.mono HL18.out.size)
  clear Ha18 Hb18 Hc18 Hj18 Hm18 Ht18 HL18 hb19
  clear Ht19
  go_wp2_with fail
  refine Calls.mono (spanMinus_any v6 v4 (SpanMath.minus a b) c w19 Hm19.out Hc19.out (Sl.minus Sa Sb).fit Sc.fit (Sl.minus Sa Sb).many Sc.many) ?_
  rintro e w20 ⟨v20, rfl, hv20, hb20⟩
  have Ha20 : Hid (Rngs w20 v2 a) := Rngs.later Ha19.out hb20
  have Hb20 : Hid (Rngs w20 v3 b) := Rngs.later Hb19.out hb20
  have Hc20 : Hid (Rngs w20 v4 c) := Rngs.later Hc19.out hb20
  have Hj20 : Hid (Rngs w20 v5 (SpanMath.join a b)) := Rngs.later Hj19.out hb20
  have Hm20 : Hid (Rngs w20 v6 (SpanMath.minus a b)) := Rngs.later Hm19.out hb20
  have Ht20 : Hid (Rngs w20 v20 (SpanMath.minus (SpanMath.minus a b) c)) := hv20
  have HL20 : Hid (Below w.heap.size w w20) := HL19.out.trans (hb20.mono HL19.out.size)
  clear Ha19 Hb19 Hc19 Hj19 Hm19 hv20 HL19 hb20
  go_wp2_with fail
  refine Calls.mono (spanJoin_any v3 v4 b c w20 Hb20.out Hc20.out Sb.fit Sc.fit Sb.many Sc.many) ?_
  rintro e w21 ⟨v21, rfl, hv21, hb21⟩
  have Ha21 : Hid (Rngs w21 v2 a) := Rngs.later Ha20.out hb21
  have Hb21 : Hid (Rngs w21 v3 b) := Rngs.later Hb20.out hb21
  have Hc21 : Hid (Rngs w21 v4 c) := Rngs.later Hc20.out hb21
  have Hj21 : Hid (Rngs w21 v5 (SpanMath.join a b)) := Rngs.later Hj20.out hb21
  have Hm21 : Hid (Rngs w21 v6 (SpanMath.minus a b)) := Rngs.later Hm20.out hb21
  have Ht21 : Hid (Rngs w21 v20 (SpanMath.minus (SpanMath.minus a b) c)) := Rngs.later Ht20.out hb21
  have Hu21 : Hid (Rngs w21 v21 (SpanMath.join b c)) := hv21
  have HL21 : Hid (Below w.heap.size w w21) := HL20.out.trans (hb21.mono HL20.out.size)
  clear Ha20 Hb20 Hc20 Hj20 Hm20 Ht20 hv21 HL20 hb21
  go_wp2_with fail
  refine Calls.mono (spanMinus_any v2 v21 a (SpanMath.join b c) w21 Ha21.out Hu21.out Sa.fit (Sl.join Sb Sc).fit Sa.many (Sl.join Sb Sc).many) ?_
  rintro e w22 ⟨v22, rfl, hv22, hb22⟩
  have Ha22 : Hid (Rngs w22 v2 a) := Rngs.later Ha21.out hb22
  have Hb22 : Hid (Rngs w22 v3 b) := Rngs.later Hb21.out hb22
  have Hc22 : Hid (Rngs w22 v4 c) := Rngs.later Hc21.out hb22
  have Hj22 : Hid (Rngs w22 v5 (SpanMath.join a b)) := Rngs.later Hj21.out hb22
  have Hm22 : Hid (Rngs w22 v6 (SpanMath.minus a b)) := Rngs.later Hm21.out hb22
  have Ht22 : Hid (Rngs w22 v20 (SpanMath.minus (SpanMath.minus a b) c)) := Rngs.later Ht21.out hb22
  have Hu22 : Hid (Rngs w22 v21 (SpanMath.join b c)) := Rngs.later Hu21.out hb22
  have Hv22 : Hid (Rngs w22 v22 (SpanMath.minus a (SpanMath.join b c))) := hv22
  have HL22 : Hid (Below w.heap.size w w22) := HL21.out.trans (hb22.mono HL21.out.size)
  clear Ha21 Hb21 Hc21 Hj21 Hm21 Ht21 Hu21 hv22 HL21 hb22
  go_wp2_with fail
  refine Calls.mono (same_of w22 Ht22.out Hv22.out (SpanMath.minus_minus Sa.right Sb.right Sc.right) (Sl.minus (Sl.minus Sa Sb) Sc).sm) ?_
  rintro e w23 ⟨rfl, hb23⟩
  have Ha23 : Hid (Rngs w23 v2 a) := Rngs.later Ha22.out hb23
  have Hb23 : Hid (Rngs w23 v3 b) := Rngs.later Hb22.out hb23
  have Hc23 : Hid (Rngs w23 v4 c) := Rngs.later Hc22.out hb23
  have Hj23 : Hid (Rngs w23 v5 (SpanMath.join a b)) := Rngs.later Hj22.out hb23
  have Hm23 : Hid (Rngs w23 v6 (SpanMath.minus a b)) := Rngs.later Hm22.out hb23
  have Ht23 : Hid (Rngs w23 v20 (SpanMath.minus (SpanMath.minus a b) c)) := Rngs.later Ht22.out hb23
  have Hu23 : Hid (Rngs w23 v21 (SpanMath.join b c)) := Rngs.later Hu22.out hb23
  have Hv23 : Hid (Rngs w23 v22 (SpanMath.minus a (SpanMath.join b c))) := Rngs.later Hv22.out hb23
  have HL23 : Hid (Below w.heap.size w w23) := HL22.out.trans (hb23.mono HL22.out.size)
  clear Ha22 Hb22 Hc22 Hj22 Hm22 Ht22 Hu22 Hv22 HL22 hb23
  clear Ht23 Hu23 Hv23
  go_wp2_with fail
  refine Calls.mono (spanMinus_any v2 v2 a a w23 Ha23.out Ha23.out Sa.fit Sa.fit Sa.many Sa.many) ?_
  rintro e w24 ⟨v24, rfl, hv24, hb24⟩
  have Ha24 : Hid (Rngs w24 v2 a) := Rngs.later Ha23.out hb24
  have Hb24 : Hid (Rngs w24 v3 b) := Rngs.later Hb23.out hb24
  have Hc24 : Hid (Rngs w24 v4 c) := Rngs.later Hc23.out hb24
  have Hj24 : Hid (Rngs w24 v5 (SpanMath.join a b)) := Rngs.later Hj23.out hb24
  have Hm24 : Hid (Rngs w24 v6 (SpanMath.minus a b)) := Rngs.later Hm23.out hb24
  have Ht24 : Hid (Rngs w24 v24 (SpanMath.minus a a)) := hv24
  have HL24 : Hid (Below w.heap.size w w24) := HL23.out.trans (hb24.mono HL23.out.size)
  clear Ha23 Hb23 Hc23 Hj23 Hm23 hv24 HL23 hb24
  have hnil := Ht24.out
  rw [SpanMath.minus_self Sa.right] at hnil
  obtain ⟨an, cn, rfl, hrn, hcn, hmn, hnn⟩ := hnil
  clear hrn Ht24
  go_wp2_with fail
  refine Calls.mono (spanMinus_any v2 (.slice none 0 0) a [] w24 Ha24.out (Rngs.nil _) Sa.fit Sl.nil.fit Sa.many Sl.nil.many) ?_
  rintro e w25 ⟨v25, rfl, hv25, hb25⟩
  have Ha25 : Hid (Rngs w25 v2 a) := Rngs.later Ha24.out hb25
  have Hb25 : Hid (Rngs w25 v3 b) := Rngs.later Hb24.out hb25
  have Hc25 : Hid (Rngs w25 v4 c) := Rngs.later Hc24.out hb25
  have Hj25 : Hid (Rngs w25 v5 (SpanMath.join a b)) := Rngs.later Hj24.out hb25
  have Hm25 : Hid (Rngs w25 v6 (SpanMath.minus a b)) := Rngs.later Hm24.out hb25
  have Ht25 : Hid (Rngs w25 v25 (SpanMath.minus a [])) := hv25
  have HL25 : Hid (Below w.heap.size w w25) := HL24.out.trans (hb25.mono HL24.out.size)
  clear Ha24 Hb24 Hc24 Hj24 Hm24 hv25 HL24 hb25
  go_wp2_with fail
  refine Calls.mono (same_of w25 Ht25.out Ha25.out (SpanMath.minus_nil Sa.right) (Sl.minus Sa Sl.nil).sm) ?_
  rintro e w26 ⟨rfl, hb26⟩
  have Ha26 : Hid (Rngs w26 v2 a) := Rngs.later Ha25.out hb26
  have Hb26 : Hid (Rngs w26 v3 b) := Rngs.later Hb25.out hb26
  have Hc26 : Hid (Rngs w26 v4 c) := Rngs.later Hc25.out hb26
  have Hj26 : Hid (Rngs w26 v5 (SpanMath.join a b)) := Rngs.later Hj25.out hb26
  have Hm26 : Hid (Rngs w26 v6 (SpanMath.minus a b)) := Rngs.later Hm25.out hb26
  have Ht26 : Hid (Rngs w26 v25 (SpanMath.minus a [])) := Rngs.later Ht25.out hb26
  have HL26 : Hid (Below w.heap.size w w26) := HL25.out.trans (hb26.mono HL25.out.size)
  clear Ha25 Hb25 Hc25 Hj25 Hm25 Ht25 HL25 hb26
  go_wp2
  go_ret
  exact ⟨rfl, HL26.out⟩
theorem spanAlgebra_walk (x y z : Int) (W : World) (wx : (Lit.int .u64 x).wf = true) (wy : (Lit.int .u64 y).wf = true) (wz : (Lit.int .u64 z).wf = true) :
    Calls Try.prog 6 #[.int .u64 x, .int .u64 y, .int .u64 z] W fun e W' => e = .returned (.bool true) ∧ Below W.heap.size W W' :=
  spanAlgebra_any x y z W (bounds_u64 wx) (bounds_u64 wy) (bounds_u64 wz)
end Go.Proofs.Ytnkjfenibgiaaaa
