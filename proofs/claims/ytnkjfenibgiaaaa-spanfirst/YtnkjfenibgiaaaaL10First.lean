/-
  Walk of newsreellaw10.SpanFirst.
-/
import Derived.Test.YtnkjfenibgiaaaaL10Known
import Derived.Test.YtnkjfenibgiaaaaL10Kit
import Derived.OpenShut
namespace Go.Proofs.Ytnkjfenibgiaaaa
open Go.RowKit NumMath
open SpanMath (Rg)
set_option maxRecDepth 100000
set_option linter.unusedVariables false
set_option linter.unusedSimpArgs false

set_option maxHeartbeats 16000000 in
theorem spanFirst_inner (x n : Int) (w : World) (hx : 0 ≤ x ∧ x ≤ 18446744073709551615) (hn : 0 ≤ n ∧ n ≤ 255) :
    Calls Try.prog 8 #[.int .u64 x, .int .u8 n] w fun e w' => e = .returned (.bool true) ∧ Below w.heap.size w w' := by
  have HL0 : Hid (Below w.heap.size w w) := Below.refl _ _
  have hm0 : 0 ≤ n % 3 ∧ n % 3 ≤ 2 := by omega
  have Sx : Sl (SpanMath.B x (n % 3)) := Sl.bits x (n % 3) hm0.1 (by omega)
  have Sn : Sl (SpanMath.B n 0) := Sl.bits n 0 (by decide) (by decide)
  have HJ : Hid _ := SpanMath.first_of (l := SpanMath.join (SpanMath.B x (n % 3)) (SpanMath.B n 0)) (SpanMath.join_R (SpanMath.B_R _ _) (SpanMath.B_R _ _)) (M := 67) (by decide) (fun k hk => by
    rcases (SpanMath.join_in (SpanMath.B_R _ _) (SpanMath.B_R _ _) k).1 hk with h | h
    · have := SpanMath.B_span hm0.1 (by omega) h; omega
    · have := SpanMath.B_span (x := n) (base := 0) (by decide) (by decide) h; omega)
  have HBx : Hid (∀ w, _) := fun w => bits_rngs x (n % 3) w hx ⟨hm0.1, by omega⟩
  have HBn : Hid (∀ w, _) := fun w => bits_rngs n 0 w ⟨hn.1, by omega⟩ (by decide)
  generalize SpanMath.B x (n % 3) = a at *
  generalize SpanMath.B n 0 = b at *
  have Sj := Sl.join Sx Sn
  have HSm : Hid (Sl (SpanMath.join a b)) := Sj
  have HHas : Hid (∀ k, SpanMath.has (SpanMath.join a b) k = SpanMath.hasIn (SpanMath.join a b) k) := fun k => SpanMath.has_of Sj.right k
  have HCt : Hid (SpanMath.count (SpanMath.join a b) = SpanMath.sum (SpanMath.join a b)) := SpanMath.count_of Sj.right
  have HSl : Hid _ := SpanMath.sum_le Sj.right
  have e1 : IntKind.i64.wrap (n % 3) = n % 3 := by rw [IntKind.wrap_i64]; omega
  have e2 : IntKind.u64.wrap n = n := by rw [IntKind.wrap_u64]; omega
  have e3 : IntKind.u8.wrap (n % 3) = n % 3 := by rw [IntKind.wrap_u8]; omega
  have e4 : n.tmod 3 = n % 3 := Int.tmod_eq_emod_of_nonneg hn.1
  have HSa : Hid (Sl a) := Sx
  have HSb : Hid (Sl b) := Sn
  clear hm0 hx hn Sj Sx Sn
  go_enter Try.func8, Try.ntmps8
  go_wp2_with fail
  refine Calls.mono (known_any w) ?_
  rintro e w1 ⟨rfl, hb1⟩
  have HL1 : Hid (Below w.heap.size w w1) := HL0.out.trans (hb1.mono HL0.out.size)
  clear HL0 hb1
  go_wp2_with fail
  refine Calls.mono (HBx.out w1) ?_
  rintro e w2 ⟨v2, rfl, hv2, hb2⟩
  have Ha2 : Hid (Rngs w2 v2 a) := hv2
  have HL2 : Hid (Below w.heap.size w w2) := HL1.out.trans (hb2.mono HL1.out.size)
  clear hv2 HL1 hb2
  go_wp2_with fail
  refine Calls.mono (HBn.out w2) ?_
  rintro e w3 ⟨v3, rfl, hv3, hb3⟩
  have Ha3 : Hid (Rngs w3 v2 a) := Rngs.later Ha2.out hb3
  have Hb3 : Hid (Rngs w3 v3 b) := hv3
  have HL3 : Hid (Below w.heap.size w w3) := HL2.out.trans (hb3.mono HL2.out.size)
  clear Ha2 hv3 HL2 hb3
  go_wp2_with fail
  refine Calls.mono (spanJoin_any v2 v3 a b w3 Ha3.out Hb3.out HSa.out.fit HSb.out.fit HSa.out.many HSb.out.many) ?_
  rintro e w4 ⟨v4, rfl, hv4, hb4⟩
  have Ha4 : Hid (Rngs w4 v2 a) := Rngs.later Ha3.out hb4
  have Hb4 : Hid (Rngs w4 v3 b) := Rngs.later Hb3.out hb4
  have Hj4 : Hid (Rngs w4 v4 (SpanMath.join a b)) := hv4
  have HL4 : Hid (Below w.heap.size w w4) := HL3.out.trans (hb4.mono HL3.out.size)
  clear Ha3 Hb3 hv4 HL3 hb4
  clear Ha4 Hb4
  generalize SpanMath.join a b = J at *
  go_wp2_with fail
  refine Calls.mono (spanFirst_any v4 J w4 Hj4.out HSm.out.fit) ?_
  rintro e w5 ⟨rfl, hb5⟩
  have Hj5 : Hid (Rngs w5 v4 J) := Rngs.later Hj4.out hb5
  have HL5 : Hid (Below w.heap.size w w5) := HL4.out.trans (hb5.mono HL4.out.size)
  clear Hj4 HL4 hb5
  obtain ⟨⟨hf0, hf1⟩, hfh, hfn, hfs⟩ := HJ.out
  have HFh : Hid (∀ i, 1 ≤ i → i ≤ SpanMath.first J → SpanMath.hasIn J i = true) := hfh
  have HFn : Hid (SpanMath.hasIn J (SpanMath.first J + 1) = false) := hfn
  clear hfh hfn HJ e1 e2 e3 e4 HBx HBn
  have hsl := HSl.out
  generalize SpanMath.first J = F at *
  have HC : Hid (SpanMath.count J = SpanMath.sum J) := HCt.out
  have HCn : Hid (∀ w' : World, Rngs w' v4 J → _) := fun w' h => spanCount_any v4 J w' h HSm.out.fit
  generalize SpanMath.sum J = Sm0 at *
  generalize SpanMath.count J = Ct at *
  clear HCt HSl
  go_wp2
  go_loopw [7] (fun i wr => ∃ k : Nat, (k : Int) ≤ F ∧ i = .int .i64 ((k + 1 : Nat) : Int) ∧ Rngs wr v4 J ∧ Below w.heap.size w wr) (fun i _ => 70 - (intOf i).toNat)
  case atStart => exact ⟨0, by omega, rfl, Hj5.out, HL5.out⟩
  case round =>
    obtain ⟨k, hk, rfl, hR, hB⟩ := hrel
    have HR : Hid (Rngs wr v4 J) := hR
    have HB : Hid (Below w.heap.size w wr) := hB
    clear hR hB Hj5 HL5
    by_cases hkn : ((k + 1 : Nat) : Int) ≤ F
    · have hki : ((k + 1 : Nat) : Int) ≤ 70 := by omega
      have hki1 : (k : Int) + 1 ≤ F := by omega
      have hki2 : (k : Int) + 1 ≤ 70 := by omega
      have hh := spanHas_any v4 J ((k + 1 : Nat) : Int) wr HR.out HSm.out.fit (by omega) (by omega)
      rw [HHas.out, HFh.out _ (by omega) hkn] at hh
      have HH : Hid _ := hh
      clear hh
      go_wp2_with fail
      refine Calls.mono HH.out ?_
      rintro e w7 ⟨rfl, hb7⟩
      have HR7 : Hid (Rngs w7 v4 J) := HR.out.later hb7
      have HB7 : Hid (Below w.heap.size w w7) := HB.out.trans (hb7.mono HB.out.size)
      clear hb7 HR HB HH
      go_wp2
      go_roundw
      case rel => exact ⟨k + 1, by omega, by go_num, HR7.out, HB7.out⟩
      case measure => simp [intOf]; omega
    · have hkb : decide (((k + 1 : Nat) : Int) ≤ F) = false := decide_eq_false hkn
      have hkb1 : decide ((k : Int) + 1 ≤ F) = false := decide_eq_false (by omega)
      have e1 : IntKind.i64.wrap (F + 1) = F + 1 := by rw [IntKind.wrap_i64]; omega
      have hh := spanHas_any v4 J (F + 1) wr HR.out HSm.out.fit (by omega) (by omega)
      rw [HHas.out, HFn.out] at hh
      have HH : Hid _ := hh
      clear hh
      go_wp2_with fail
      refine Calls.mono HH.out ?_
      rintro e w7 ⟨rfl, hb7⟩
      have HR7 : Hid (Rngs w7 v4 J) := HR.out.later hb7
      have HB7 : Hid (Below w.heap.size w w7) := HB.out.trans (hb7.mono HB.out.size)
      clear hb7 HR HB HH
      go_wp2_with fail
      refine Calls.mono (HCn.out w7 HR7.out) ?_
      rintro e w8 ⟨rfl, hb8⟩
      have hct : F ≤ Ct := by rw [HC.out]; exact hfs
      have HB8 : Hid (Below w.heap.size w w8) := HB7.out.trans (hb8.mono HB7.out.size)
      clear hb8
      go_wp2
      go_ret
      exact ⟨rfl, HB8.out⟩
theorem spanFirst_walk (x n : Int) (W : World) (wx : (Lit.int .u64 x).wf = true) (wn : (Lit.int .u8 n).wf = true) :
    Calls Try.prog 8 #[.int .u64 x, .int .u8 n] W fun e W' => e = .returned (.bool true) ∧ Below W.heap.size W W' :=
  spanFirst_inner x n W (bounds_u64 wx) (bounds_u8 wn)
end Go.Proofs.Ytnkjfenibgiaaaa
