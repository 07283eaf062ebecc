/-
  Walk of newsreellaw10.SpanAdd.
-/
import Derived.Test.YtnkjfenibgiaaaaL10Known
import Derived.Test.YtnkjfenibgiaaaaL10Kit
import Derived.OpenShut
import Derived.Test.YtnkjfenibgiaaaaRngStep
namespace Go.Proofs.Ytnkjfenibgiaaaa
open Go.RowKit NumMath
open SpanMath (Rg)
set_option maxRecDepth 100000
set_option linter.unusedVariables false
set_option linter.unusedSimpArgs false

theorem Sl.add {a : List Rg} {r : Rg} (ha : Sl a) (hr : SpanMath.ok r = true) (ht : r.t ≤ 1000) : Sl (SpanMath.add a r) := ⟨SpanMath.add_R ha.right hr, fun n hn => by
  have o := SpanMath.ok_iff.1 hr
  rcases (SpanMath.add_in ha.right hr n).1 hn with h | h
  · omega
  · exact ha.low n h⟩
theorem Sl.one {r : Rg} (hr : SpanMath.ok r = true) (ht : r.t ≤ 1000) : Sl [r] := ⟨SpanMath.R.one.2 hr, fun n hn => by
  have o := SpanMath.ok_iff.1 hr
  rcases SpanMath.In.cons.1 hn with h | h
  · omega
  · exact absurd h SpanMath.In.nil⟩

set_option maxHeartbeats 16000000 in
theorem spanAdd_inner (x q n k : Int) (w : World) (hx : 0 ≤ x ∧ x ≤ 18446744073709551615) (hq : 0 ≤ q ∧ q ≤ 255) (hn : 0 ≤ n ∧ n ≤ 255) (hk : 0 ≤ k ∧ k ≤ 255) :
    Calls Try.prog 7 #[.int .u64 x, .int .u8 q, .int .u8 n, .int .u8 k] w fun e w' => e = .returned (.bool true) ∧ Below w.heap.size w w' := by
  have HL0 : Hid (Below w.heap.size w w) := Below.refl _ _
  have Sa : Sl (SpanMath.B x 10) := Sl.bits x 10 (by decide) (by decide)
  have HBx : Hid (∀ w, _) := fun w => bits_rngs x 10 w hx (by decide)
  generalize SpanMath.B x 10 = a at *
  go_enter Try.func7, Try.ntmps7
  go_wp2_with fail
  refine Calls.mono (known_any w) ?_
  rintro e w1 ⟨rfl, hb1⟩
  have HL1 : Hid (Below w.heap.size w w1) := HL0.out.trans (hb1.mono HL0.out.size)
  clear HL0 hb1
  go_wp2_with fail
  refine Calls.mono (HBx.out w1) ?_
  rintro e w2 ⟨v2, rfl, hv2, hb2⟩
  have Ha2 : Hid (Rngs w2 v2 a) := hv2
  have HL2 : Hid (Below w.heap.size w w2) := HL1.out.trans (hb2.mono HL1.out.size)
  clear hv2 HL1 hb2
  go_wp2_with fail
  obtain ⟨t, ht⟩ : ∃ t, t = q % 90 + 1 + n % 30 := ⟨_, rfl⟩
  rw [← ht]
  obtain ⟨f, hf⟩ : ∃ f, f = q % 90 + 1 := ⟨_, rfl⟩
  rw [← hf]
  obtain ⟨K, hK⟩ : ∃ K, K = k % 130 := ⟨_, rfl⟩
  have hft : (1 ≤ f ∧ f ≤ 90) ∧ f ≤ t ∧ t ≤ 119 := by omega
  have hKK : 0 ≤ K ∧ K ≤ 129 := by omega
  have hok : SpanMath.ok ⟨f, t⟩ = true := SpanMath.ok_iff.2 ⟨hft.1.1, by show t ≤ _; omega, hft.2.1⟩
  have hfit := SpanMath.ok_fit hok
  have Sr : Sl [⟨f, t⟩] := Sl.one hok (by show t ≤ _; omega)
  have Ss : Sl (SpanMath.add a ⟨f, t⟩) := Sl.add Sa hok (by show t ≤ _; omega)
  have hadd := SpanMath.add_has Sa.right hok K
  have hjoin := SpanMath.join_one a ⟨f, t⟩
  have hagain := SpanMath.add_again Sa.right hok
  have hnone : SpanMath.add a ⟨t + 1, f⟩ = [] := SpanMath.add_no a ⟨t + 1, f⟩ (by show f < t + 1; omega)
  have hbl : Below w2.heap.size w2 (w2.alloc (.cells #[.int .i64 f, .int .i64 t] 24)) := (Below.refl _ _).alloc (Nat.le_refl _) _
  have HR0 : Hid (RgAt (w2.alloc (.cells #[.int .i64 f, .int .i64 t] 24)) w2.heap.size ⟨f, t⟩) := RgAt.new w2 ⟨f, t⟩ rfl
  have Ha0 : Hid (Rngs (w2.alloc (.cells #[.int .i64 f, .int .i64 t] 24)) v2 a) := Rngs.later Ha2.out hbl
  have HLb : Hid (Below w.heap.size w (w2.alloc (.cells #[.int .i64 f, .int .i64 t] 24))) := HL2.out.trans (hbl.mono HL2.out.size)
  clear hbl Ha2 HL2 ht hf
  (try rw [← hK])
  generalize (w2.alloc (.cells #[.int .i64 f, .int .i64 t] 24)) = u0 at *
  generalize w2.heap.size = g at *
  have hA := spanAdd_any v2 a ⟨f, t⟩ u0 Ha0.out Sa.fit hfit Sa.many
  unfold rgV at hA
  dsimp only at hA
  skip
  refine Calls.mono (hA) ?_
  rintro e w3 ⟨v3, rfl, hv3, hb3⟩
  have hbr3 := hb3
  have Ha3 : Hid (Rngs w3 v2 a) := Rngs.later Ha0.out hb3
  have Hs3 : Hid (Rngs w3 v3 (SpanMath.add a ⟨f, t⟩)) := hv3
  have HL3 : Hid (Below w.heap.size w w3) := HLb.out.trans (hb3.mono HLb.out.size)
  clear Ha0 hv3 HLb hb3
  have HR3 : Hid (RgAt w3 g ⟨f, t⟩) := RgAt.later HR0.out hbr3 HR0.out.lt
  clear HR0 hbr3
  clear hA
  have HRi : Hid _ := spanRight_any v3 (SpanMath.add a ⟨f, t⟩) w3 Hs3.out Ss.fit
  rw [(SpanMath.right_iff _).2 Ss.right] at HRi
  obtain ⟨A, hA⟩ : ∃ b, b = SpanMath.hasIn a K := ⟨_, rfl⟩
  obtain ⟨G, hG⟩ : ∃ b, b = decide (f ≤ K) := ⟨_, rfl⟩
  obtain ⟨L, hL⟩ : ∃ b, b = decide (K ≤ t) := ⟨_, rfl⟩
  have hS := hadd
  rw [← hA] at hS
  simp only [] at hS
  rw [← hG, ← hL] at hS
  obtain ⟨Sv, hSv⟩ : ∃ b, b = SpanMath.hasIn (SpanMath.add a ⟨f, t⟩) K := ⟨_, rfl⟩
  rw [← hSv] at hS
  clear hadd
  have HHs : Hid (∀ w v, Rngs w v (SpanMath.add a ⟨f, t⟩) → Calls Try.prog 12 #[v, .int .i64 K] w fun e w' => e = .returned (.bool Sv) ∧ Below w.heap.size w w') := fun w v h => by
    rw [hSv, ← SpanMath.has_of Ss.right]; exact spanHas_any v _ K w h Ss.fit (by omega) (by omega)
  have HHa : Hid (∀ w v, Rngs w v a → Calls Try.prog 12 #[v, .int .i64 K] w fun e w' => e = .returned (.bool A) ∧ Below w.heap.size w w') := fun w v h => by
    rw [hA, ← SpanMath.has_of Sa.right]; exact spanHas_any v _ K w h Sa.fit (by omega) (by omega)
  clear hA hSv
  have hG' := hG.symm
  have hL' := hL.symm
  clear hG hL
  subst hK
  cases A <;> cases G <;> cases L <;> simp only [Bool.or_true, Bool.or_false, Bool.false_or, Bool.true_or, Bool.and_true, Bool.and_false, Bool.false_and, Bool.true_and] at hS <;> subst hS
  all_goals (
    go_wp2_with fail
    refine Calls.mono (HRi.out) ?_
    rintro e w4 ⟨rfl, hb4⟩
    have hbr4 := hb4
    have Ha4 : Hid (Rngs w4 v2 a) := Rngs.later Ha3.out hb4
    have Hs4 : Hid (Rngs w4 v3 (SpanMath.add a ⟨f, t⟩)) := Rngs.later Hs3.out hb4
    have HL4 : Hid (Below w.heap.size w w4) := HL3.out.trans (hb4.mono HL3.out.size)
    clear Ha3 Hs3 HL3 hb4
    have HR4 : Hid (RgAt w4 g ⟨f, t⟩) := RgAt.later HR3.out hbr4 HR3.out.lt
    clear HR3 hbr4
    go_wp2_with fail
    refine Calls.mono (HHs.out _ v3 Hs4.out) ?_
    rintro e w5 ⟨rfl, hb5⟩
    have hbr5 := hb5
    have Ha5 : Hid (Rngs w5 v2 a) := Rngs.later Ha4.out hb5
    have Hs5 : Hid (Rngs w5 v3 (SpanMath.add a ⟨f, t⟩)) := Rngs.later Hs4.out hb5
    have HL5 : Hid (Below w.heap.size w w5) := HL4.out.trans (hb5.mono HL4.out.size)
    clear Ha4 Hs4 HL4 hb5
    have HR5 : Hid (RgAt w5 g ⟨f, t⟩) := RgAt.later HR4.out hbr5 HR4.out.lt
    clear HR4 hbr5
    go_wp2_with fail
    refine Calls.mono (HHa.out _ v2 Ha5.out) ?_
    rintro e w6 ⟨rfl, hb6⟩
    have hbr6 := hb6
    have Ha6 : Hid (Rngs w6 v2 a) := Rngs.later Ha5.out hb6
    have Hs6 : Hid (Rngs w6 v3 (SpanMath.add a ⟨f, t⟩)) := Rngs.later Hs5.out hb6
    have HL6 : Hid (Below w.heap.size w w6) := HL5.out.trans (hb6.mono HL5.out.size)
    clear Ha5 Hs5 HL5 hb6
    have HR6 : Hid (RgAt w6 g ⟨f, t⟩) := RgAt.later HR5.out hbr6 HR5.out.lt
    clear HR5 hbr6
    obtain ⟨r0, r1⟩ := HR6.out.cells
    go_wp2_with fail
    have hbl : Below w6.heap.size w6 (w6.alloc (.cells #[.int .i64 f, .int .i64 t] 24)) := (Below.refl _ _).alloc (Nat.le_refl _) _
    have Hl9 : Hid (Rngs (w6.alloc (.cells #[.int .i64 f, .int .i64 t] 24)) (.slice (some ⟨w6.heap.size, 0, none⟩) 1 1) [⟨f, t⟩]) := ⟨_, 1, rfl, lit_rngs w6 [⟨f, t⟩] rfl, Nat.le_refl _, by decide, by simp⟩
    have Ha9 : Hid (Rngs (w6.alloc (.cells #[.int .i64 f, .int .i64 t] 24)) v2 a) := Rngs.later Ha6.out hbl
    have Hs9 : Hid (Rngs (w6.alloc (.cells #[.int .i64 f, .int .i64 t] 24)) v3 (SpanMath.add a ⟨f, t⟩)) := Rngs.later Hs6.out hbl
    have HR9 : Hid (RgAt (w6.alloc (.cells #[.int .i64 f, .int .i64 t] 24)) g ⟨f, t⟩) := RgAt.later HR6.out hbl HR6.out.lt
    have HL9 : Hid (Below w.heap.size w (w6.alloc (.cells #[.int .i64 f, .int .i64 t] 24))) := HL6.out.trans (hbl.mono HL6.out.size)
    clear hbl Ha6 Hs6 HR6 HL6 r0 r1
    generalize (w6.alloc (.cells #[.int .i64 f, .int .i64 t] 24)) = u1 at *
    generalize w6.heap.size = gl at *
    skip
    refine Calls.mono (spanJoin_any v2 (.slice (some ⟨gl, 0, none⟩) 1 1) a [⟨f, t⟩] u1 Ha9.out Hl9.out Sa.fit Sr.fit Sa.many Sr.many) ?_
    rintro e w7 ⟨v7, rfl, hv7, hb7⟩
    have hbr7 := hb7
    have Ha7 : Hid (Rngs w7 v2 a) := Rngs.later Ha9.out hb7
    have Hs7 : Hid (Rngs w7 v3 (SpanMath.add a ⟨f, t⟩)) := Rngs.later Hs9.out hb7
    have Hj7 : Hid (Rngs w7 v7 (SpanMath.join a [⟨f, t⟩])) := hv7
    have HL7 : Hid (Below w.heap.size w w7) := HL9.out.trans (hb7.mono HL9.out.size)
    clear Ha9 Hs9 hv7 HL9 hb7
    have HR7 : Hid (RgAt w7 g ⟨f, t⟩) := RgAt.later HR9.out hbr7 HR9.out.lt
    clear HR9 hbr7
    clear Hl9
    go_wp2_with fail
    refine Calls.mono (same_of w7 Hs7.out Hj7.out hjoin.symm Ss.sm) ?_
    rintro e w8 ⟨rfl, hb8⟩
    have hbr8 := hb8
    have Ha8 : Hid (Rngs w8 v2 a) := Rngs.later Ha7.out hb8
    have Hs8 : Hid (Rngs w8 v3 (SpanMath.add a ⟨f, t⟩)) := Rngs.later Hs7.out hb8
    have Hj8 : Hid (Rngs w8 v7 (SpanMath.join a [⟨f, t⟩])) := Rngs.later Hj7.out hb8
    have HL8 : Hid (Below w.heap.size w w8) := HL7.out.trans (hb8.mono HL7.out.size)
    clear Ha7 Hs7 Hj7 HL7 hb8
    have HR8 : Hid (RgAt w8 g ⟨f, t⟩) := RgAt.later HR7.out hbr8 HR7.out.lt
    clear HR7 hbr8
    clear Hj8
    obtain ⟨r0, r1⟩ := HR8.out.cells
    have hA := spanAdd_any v3 (SpanMath.add a ⟨f, t⟩) ⟨f, t⟩ w8 Hs8.out Ss.fit hfit Ss.many
    unfold rgV at hA
    dsimp only at hA
    go_wp2_with fail
    refine Calls.mono (hA) ?_
    rintro e w9 ⟨v9, rfl, hv9, hb9⟩
    have hbr9 := hb9
    have Ha9 : Hid (Rngs w9 v2 a) := Rngs.later Ha8.out hb9
    have Hs9 : Hid (Rngs w9 v3 (SpanMath.add a ⟨f, t⟩)) := Rngs.later Hs8.out hb9
    have Hd9 : Hid (Rngs w9 v9 (SpanMath.add (SpanMath.add a ⟨f, t⟩) ⟨f, t⟩)) := hv9
    have HL9 : Hid (Below w.heap.size w w9) := HL8.out.trans (hb9.mono HL8.out.size)
    clear Ha8 Hs8 hv9 HL8 hb9
    have HR9 : Hid (RgAt w9 g ⟨f, t⟩) := RgAt.later HR8.out hbr9 HR8.out.lt
    clear HR8 hbr9
    clear hA r0 r1
    go_wp2_with fail
    refine Calls.mono (same_of w9 Hd9.out Hs9.out hagain (by rw [hagain]; exact Ss.sm)) ?_
    rintro e w10 ⟨rfl, hb10⟩
    have hbr10 := hb10
    have Ha10 : Hid (Rngs w10 v2 a) := Rngs.later Ha9.out hb10
    have Hs10 : Hid (Rngs w10 v3 (SpanMath.add a ⟨f, t⟩)) := Rngs.later Hs9.out hb10
    have Hd10 : Hid (Rngs w10 v9 (SpanMath.add (SpanMath.add a ⟨f, t⟩) ⟨f, t⟩)) := Rngs.later Hd9.out hb10
    have HL10 : Hid (Below w.heap.size w w10) := HL9.out.trans (hb10.mono HL9.out.size)
    clear Ha9 Hs9 Hd9 HL9 hb10
    have HR10 : Hid (RgAt w10 g ⟨f, t⟩) := RgAt.later HR9.out hbr10 HR9.out.lt
    clear HR9 hbr10
    clear Hd10
    have e1 : IntKind.i64.wrap (t + 1) = t + 1 := by rw [IntKind.wrap_i64]; omega
    obtain ⟨r0, r1⟩ := HR10.out.cells
    have hA := spanAdd_any v2 a ⟨t + 1, f⟩ w10 Ha10.out Sa.fit (by unfold SpanMath.Fit; dsimp only; omega) Sa.many
    unfold rgV at hA
    dsimp only at hA
    rw [hnone] at hA
    go_wp2_with fail
    refine Calls.mono (hA) ?_
    rintro e w11 ⟨v11, rfl, hv11, hb11⟩
    have hbr11 := hb11
    have Ha11 : Hid (Rngs w11 v2 a) := Rngs.later Ha10.out hb11
    have Hs11 : Hid (Rngs w11 v3 (SpanMath.add a ⟨f, t⟩)) := Rngs.later Hs10.out hb11
    have Hz11 : Hid (Rngs w11 v11 []) := hv11
    have HL11 : Hid (Below w.heap.size w w11) := HL10.out.trans (hb11.mono HL10.out.size)
    clear Ha10 Hs10 hv11 HL10 hb11
    have HR11 : Hid (RgAt w11 g ⟨f, t⟩) := RgAt.later HR10.out hbr11 HR10.out.lt
    clear HR10 hbr11
    clear hA r0 r1
    obtain ⟨an, cn, rfl, hrn, hcn, hmn, hnn⟩ := Hz11.out
    clear hrn Hz11
    go_wp2
    go_ret
    exact ⟨rfl, HL11.out⟩)
theorem spanAdd_walk (x q n k : Int) (W : World) (wx : (Lit.int .u64 x).wf = true) (wq : (Lit.int .u8 q).wf = true) (wn : (Lit.int .u8 n).wf = true) (wk : (Lit.int .u8 k).wf = true) :
    Calls Try.prog 7 #[.int .u64 x, .int .u8 q, .int .u8 n, .int .u8 k] W fun e W' => e = .returned (.bool true) ∧ Below W.heap.size W W' :=
  spanAdd_inner x q n k W (bounds_u64 wx) (bounds_u8 wq) (bounds_u8 wn) (bounds_u8 wk)
end Go.Proofs.Ytnkjfenibgiaaaa
