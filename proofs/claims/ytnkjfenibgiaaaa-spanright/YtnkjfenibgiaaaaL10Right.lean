/-
  Walk of newsreellaw10.SpanRight.
-/
import Derived.Test.YtnkjfenibgiaaaaL10Known
import Derived.Test.YtnkjfenibgiaaaaL10Kit
import Derived.Test.YtnkjfenibgiaaaaFnSpanB
import Derived.Test.YtnkjfenibgiaaaaFnSpanC
import Derived.OpenShut
import Derived.Deep.MidRow
import Derived.Deep.Cut
namespace Go.Proofs.Ytnkjfenibgiaaaa
open Go.RowKit NumMath
open SpanMath (Rg)
set_option maxRecDepth 100000
set_option linter.unusedVariables false
set_option linter.unusedSimpArgs false

theorem refRight_r (v : Value) (xs : List Rg) (w : World) (h : Rngs w v xs) (hf : ∀ r ∈ xs, SpanMath.Fit r) :
    Calls Try.prog 11 #[v] w fun e w' => e = .returned (.bool (SpanMath.right xs)) ∧ Below w.heap.size w w' := by
  obtain ⟨a, c, rfl, hr, hc, hm, hn⟩ := h
  exact refSpanRight_any a xs c w hr hc hm hf
theorem refHas_r (v : Value) (xs : List Rg) (n : Int) (w : World) (h : Rngs w v xs) (hf : ∀ r ∈ xs, SpanMath.Fit r) :
    Calls Try.prog 13 #[v, .int .i64 n] w fun e w' => e = .returned (.bool (SpanMath.has xs n)) ∧ Below w.heap.size w w' := by
  obtain ⟨a, c, rfl, hr, hc, hm, hn⟩ := h
  exact refSpanHas_any a xs c n w hr hc hm hf
theorem refCount_r (v : Value) (xs : List Rg) (w : World) (h : Rngs w v xs) (hf : ∀ r ∈ xs, SpanMath.Fit r) :
    Calls Try.prog 15 #[v] w fun e w' => e = .returned (.int .i64 (SpanMath.count xs)) ∧ Below w.heap.size w w' := by
  obtain ⟨a, c, rfl, hr, hc, hm, hn⟩ := h
  exact refSpanCount_any a xs c w hr hc hm hf
theorem refFirst_r (v : Value) (xs : List Rg) (w : World) (h : Rngs w v xs) (hf : ∀ r ∈ xs, SpanMath.Fit r) :
    Calls Try.prog 17 #[v] w fun e w' => e = .returned (.int .i64 (SpanMath.first xs)) ∧ Below w.heap.size w w' := by
  obtain ⟨a, c, rfl, hr, hc, hm, hn⟩ := h
  exact refSpanFirst_any a xs c w hr hc hm hf
theorem refJoin_r (v1 v2 : Value) (xs ys : List Rg) (w : World) (h1 : Rngs w v1 xs) (h2 : Rngs w v2 ys) (hf1 : ∀ r ∈ xs, SpanMath.Fit r) (hf2 : ∀ r ∈ ys, SpanMath.Fit r) (hl1 : xs.length ≤ 1000000) (hl2 : ys.length ≤ 1000000) :
    Calls Try.prog 20 #[v1, v2] w fun e w' => ∃ v, e = .returned v ∧ Rngs w' v (SpanMath.join xs ys) ∧ Below w.heap.size w w' := by
  obtain ⟨a, c, rfl, hr, hc, hm, hn⟩ := h1
  obtain ⟨a2, c2, rfl, hr2, hc2, hm2, hn2⟩ := h2
  refine (refSpanJoin_any a a2 xs ys c c2 w hr hr2 hc hc2 hm hm2 hn hf1 hf2 (by omega) (by omega)).mono ?_
  rintro e w' ⟨v, rfl, hO, hb⟩
  exact ⟨v, rfl, hO.ranges, hb⟩
theorem refMinus_r (v1 v2 : Value) (xs ys : List Rg) (w : World) (h1 : Rngs w v1 xs) (h2 : Rngs w v2 ys) (hf1 : ∀ r ∈ xs, SpanMath.Fit r) (hf2 : ∀ r ∈ ys, SpanMath.Fit r) (hl1 : xs.length ≤ 1000000) (hl2 : ys.length ≤ 1000000) :
    Calls Try.prog 22 #[v1, v2] w fun e w' => ∃ v, e = .returned v ∧ Rngs w' v (SpanMath.minus xs ys) ∧ Below w.heap.size w w' := by
  obtain ⟨a, c, rfl, hr, hc, hm, hn⟩ := h1
  obtain ⟨a2, c2, rfl, hr2, hc2, hm2, hn2⟩ := h2
  refine (refSpanMinus_any a a2 xs ys c c2 w hr hr2 hc hc2 hm hm2 hn hf1 hf2 (by omega) (by omega)).mono ?_
  rintro e w' ⟨v, rfl, hO, hb⟩
  exact ⟨v, rfl, hO.ranges, hb⟩
theorem same_any {a : List Rg} {v1 v2 : Value} (w : World) (h1 : Rngs w v1 a) (h2 : Rngs w v2 a) :
    Calls Try.prog 18 #[v1, v2] w fun r w' => r = .returned (.bool true) ∧ Below w.heap.size w w' := by
  obtain ⟨a1, c1, rfl, hr1, hc1, hm1, _⟩ := h1
  obtain ⟨a2, c2, rfl, hr2, hc2, hm2, _⟩ := h2
  exact sameSpan_any a1 a2 c1 c2 a w hr1 hr2 hc1 hc2 hm1 hm2
theorem sizePair : (Try.prog.info? 26).map (·.size) = some 2 := by kernel_rfl

set_option maxHeartbeats 32000000 in
theorem spanRight_walk (a0 : Option Addr) (xs0 : List Rg) (cap0 : Nat) (a1 : Option Addr) (xs1 : List Rg) (cap1 : Nat) (r : Rg) (n : Int) (W : World)
    (hr0 : GRow W a0 xs0) (hc0 : xs0.length ≤ cap0) (hm0 : cap0 ≤ maxLen) (hf0 : (∀ s ∈ xs0, SpanMath.Fit s) ∧ (a0 = none → cap0 = 0))
    (hr1 : GRow W a1 xs1) (hc1 : xs1.length ≤ cap1) (hm1 : cap1 ≤ maxLen) (hf1 : (∀ s ∈ xs1, SpanMath.Fit s) ∧ (a1 = none → cap1 = 0))
    (hfr : SpanMath.Fit r) (wn : (Lit.int .i64 n).wf = true) :
    Calls Try.prog 3 #[.slice a0 xs0.length cap0, .slice a1 xs1.length cap1, rgV r, .int .i64 n] W fun e W' => e = .returned (.bool true) ∧ Below W.heap.size W W' := by
  obtain ⟨hw1, hw2⟩ := bounds_i64 wn
  have HX0 : Hid (RgAt (W.alloc (.cells #[.int .i64 r.f, .int .i64 r.t] 24)) W.heap.size r) := RgAt.new W r rfl
  have HB0 : Hid (Below W.heap.size W (W.alloc (.cells #[.int .i64 r.f, .int .i64 r.t] 24))) := (Below.refl _ _).alloc (Nat.le_refl _) _
  have HK : Hid (∀ w, _) := fun w => known_any w
  have HFr : Hid (SpanMath.Fit r) := hfr
  have HF0 : Hid (∀ s ∈ xs0, SpanMath.Fit s) := hf0.1
  have HF1 : Hid (∀ s ∈ xs1, SpanMath.Fit s) := hf1.1
  have HA0 : Hid (∀ w', Below W.heap.size W w' → Rngs w' (.slice a0 xs0.length cap0) xs0) := fun w' hB => ⟨a0, cap0, rfl, hr0.later hB, hc0, hm0, hf0.2⟩
  have HA1 : Hid (∀ w', Below W.heap.size W w' → Rngs w' (.slice a1 xs1.length cap1) xs1) := fun w' hB => ⟨a1, cap1, rfl, hr1.later hB, hc1, hm1, hf1.2⟩
  obtain ⟨n0, hx0⟩ : ∃ n, n = xs0.length := ⟨_, rfl⟩
  obtain ⟨n1, hx1⟩ : ∃ n, n = xs1.length := ⟨_, rfl⟩
  have HN0 : Hid (n0 = xs0.length) := hx0
  have HN1 : Hid (n1 = xs1.length) := hx1
  rw [← hx0] at HA0 ⊢
  rw [← hx1] at HA1 ⊢
  unfold rgV
  clear hr0 hc0 hm0 hf0 hr1 hc1 hm1 hf1 hfr wn hx0 hx1
  by_cases hl0 : n0 ≤ 60
  · by_cases hl1 : n1 ≤ 60
    · have b0 : decide ((60 : Int) < (n0 : Int)) = false := decide_eq_false (by omega)
      have b1 : decide ((60 : Int) < (n1 : Int)) = false := decide_eq_false (by omega)
      go_enter Try.func3, Try.ntmps3
      go_upto_region 1 with (fail)
      generalize W.alloc (.cells #[.int .i64 r.f, .int .i64 r.t] 24) = w0 at *
      go_wp2_with fail
      refine Calls.mono (HK.out _) ?_
      rintro e w1 ⟨rfl, hb1⟩
      have HX1 : Hid (RgAt w1 W.heap.size r) := HX0.out.later hb1 HX0.out.lt
      have HB1 : Hid (Below W.heap.size W w1) := HB0.out.trans (hb1.mono HB0.out.size)
      clear hb1 HB0 HX0 HK
      obtain ⟨x0, x1⟩ := HX1.out.cells
      go_upto_region 6 with (fail)
      have hb2 : Below w1.heap.size w1 (w1.alloc (.cells #[.int .i64 r.f, .int .i64 r.t] 24)) := (Below.refl _ _).alloc (Nat.le_refl _) _
      have HLi : Hid (GRow (w1.alloc (.cells #[.int .i64 r.f, .int .i64 r.t] 24)) (some ⟨w1.heap.size, 0, none⟩) [r]) := lit_rngs w1 [r] rfl
      have HX2 : Hid (RgAt (w1.alloc (.cells #[.int .i64 r.f, .int .i64 r.t] 24)) W.heap.size r) := HX1.out.later hb2 HX1.out.lt
      have HB2 : Hid (Below W.heap.size W (w1.alloc (.cells #[.int .i64 r.f, .int .i64 r.t] 24))) := HB1.out.trans (hb2.mono HB1.out.size)
      clear hb2 HX1 HB1 x0 x1
      generalize w1.alloc (.cells #[.int .i64 r.f, .int .i64 r.t] 24) = w2 at *
      generalize w1.heap.size = g1 at *
      obtain ⟨L, hL⟩ : ∃ L : List Value, L = [.slice a0 n0 cap0, .slice a1 n1 cap1, .slice a1 n1 cap1, .slice a0 n0 cap0, .slice a0 n0 cap0, .slice (some ⟨g1, 0, none⟩) 1 1, .slice a0 n0 cap0, .slice a0 n0 cap0, .slice (some ⟨g1, 0, none⟩) 1 1, .slice none 0 0] := ⟨_, rfl⟩
      go_upto_region 7 with (fail)
      have hb3 : Below w2.heap.size w2 (w2.alloc (.cells ([.slice a0 n0 cap0, .slice a1 n1 cap1, .slice a1 n1 cap1, .slice a0 n0 cap0, .slice a0 n0 cap0, .slice (some ⟨g1, 0, none⟩) 1 1, .slice a0 n0 cap0, .slice a0 n0 cap0, .slice (some ⟨g1, 0, none⟩) 1 1, .slice none 0 0] : List Value).toArray 26)) := (Below.refl _ _).alloc (Nat.le_refl _) _
      have HAr : Hid (Arr (w2.alloc (.cells ([.slice a0 n0 cap0, .slice a1 n1 cap1, .slice a1 n1 cap1, .slice a0 n0 cap0, .slice a0 n0 cap0, .slice (some ⟨g1, 0, none⟩) 1 1, .slice a0 n0 cap0, .slice a0 n0 cap0, .slice (some ⟨g1, 0, none⟩) 1 1, .slice none 0 0] : List Value).toArray 26)) w2.heap.size 26 L) := by rw [hL]; exact Arr.new w2 26 _ rfl
      have HX3 : Hid (RgAt (w2.alloc (.cells ([.slice a0 n0 cap0, .slice a1 n1 cap1, .slice a1 n1 cap1, .slice a0 n0 cap0, .slice a0 n0 cap0, .slice (some ⟨g1, 0, none⟩) 1 1, .slice a0 n0 cap0, .slice a0 n0 cap0, .slice (some ⟨g1, 0, none⟩) 1 1, .slice none 0 0] : List Value).toArray 26)) W.heap.size r) := HX2.out.later hb3 HX2.out.lt
      have HB3 : Hid (Below W.heap.size W (w2.alloc (.cells ([.slice a0 n0 cap0, .slice a1 n1 cap1, .slice a1 n1 cap1, .slice a0 n0 cap0, .slice a0 n0 cap0, .slice (some ⟨g1, 0, none⟩) 1 1, .slice a0 n0 cap0, .slice a0 n0 cap0, .slice (some ⟨g1, 0, none⟩) 1 1, .slice none 0 0] : List Value).toArray 26))) := HB2.out.trans (hb3.mono HB2.out.size)
      have HLi3 : Hid (GRow (w2.alloc (.cells ([.slice a0 n0 cap0, .slice a1 n1 cap1, .slice a1 n1 cap1, .slice a0 n0 cap0, .slice a0 n0 cap0, .slice (some ⟨g1, 0, none⟩) 1 1, .slice a0 n0 cap0, .slice a0 n0 cap0, .slice (some ⟨g1, 0, none⟩) 1 1, .slice none 0 0] : List Value).toArray 26)) (some ⟨g1, 0, none⟩) [r]) := HLi.out.later hb3
      clear hb3 HX2 HB2 HLi
      generalize w2.alloc (.cells ([.slice a0 n0 cap0, .slice a1 n1 cap1, .slice a1 n1 cap1, .slice a0 n0 cap0, .slice a0 n0 cap0, .slice (some ⟨g1, 0, none⟩) 1 1, .slice a0 n0 cap0, .slice a0 n0 cap0, .slice (some ⟨g1, 0, none⟩) 1 1, .slice none 0 0] : List Value).toArray 26) = w6 at *
      generalize w2.heap.size = gL at *
      have HO : Hid (∀ w', Below w6.heap.size w6 w' → Rngs w' (.slice (some ⟨g1, 0, none⟩) 1 1) [r]) := fun w' hB => ⟨_, 1, rfl, HLi3.out.later hB, Nat.le_refl _, by decide, by simp⟩
      have HFo : Hid (∀ s ∈ [r], SpanMath.Fit s) := fun s hs => by simp at hs; rw [hs]; exact HFr.out
      have HP : Hid (∀ k, k < 5 → ∃ vx xs vy ys, (L[k * 2]? = some vx ∧ L[k * 2 + 1]? = some vy) ∧ (∀ w', Below w6.heap.size w6 w' → Rngs w' vx xs ∧ Rngs w' vy ys) ∧ ((∀ s ∈ xs, SpanMath.Fit s) ∧ (∀ s ∈ ys, SpanMath.Fit s)) ∧ xs.length ≤ 60 ∧ ys.length ≤ 60) := fun k hk => by
        have hA := fun w' (hB : Below w6.heap.size w6 w') => HA0.out w' (HB3.out.trans (hB.mono HB3.out.size))
        have hA1 := fun w' (hB : Below w6.heap.size w6 w') => HA1.out w' (HB3.out.trans (hB.mono HB3.out.size))
        have l0 : xs0.length ≤ 60 := by have := HN0.out; omega
        have l1 : xs1.length ≤ 60 := by have := HN1.out; omega
        rcases (show k = 0 ∨ k = 1 ∨ k = 2 ∨ k = 3 ∨ k = 4 by omega) with rfl | rfl | rfl | rfl | rfl
        · exact ⟨_, xs0, _, xs1, by rw [hL]; exact ⟨rfl, rfl⟩, fun w' h => ⟨hA w' h, hA1 w' h⟩, ⟨HF0.out, HF1.out⟩, l0, l1⟩
        · exact ⟨_, xs1, _, xs0, by rw [hL]; exact ⟨rfl, rfl⟩, fun w' h => ⟨hA1 w' h, hA w' h⟩, ⟨HF1.out, HF0.out⟩, l1, l0⟩
        · exact ⟨_, xs0, _, [r], by rw [hL]; exact ⟨rfl, rfl⟩, fun w' h => ⟨hA w' h, HO.out w' h⟩, ⟨HF0.out, HFo.out⟩, l0, by simp⟩
        · exact ⟨_, xs0, _, xs0, by rw [hL]; exact ⟨rfl, rfl⟩, fun w' h => ⟨hA w' h, hA w' h⟩, ⟨HF0.out, HF0.out⟩, l0, l0⟩
        · exact ⟨_, [r], _, [], by rw [hL]; exact ⟨rfl, rfl⟩, fun w' h => ⟨HO.out w' h, Rngs.nil w'⟩, ⟨HFo.out, fun s hs => by cases hs⟩, by simp, by simp⟩
      have HLl : Hid (L.length = 10) := by show _ = _; rw [hL]; rfl
      have HA2 : Hid (∀ w', Below w6.heap.size w6 w' → Arr w' gL 26 L) := fun w' hB => HAr.out.later hB HAr.out.lt
      have HX4 : Hid (∀ w', Below w6.heap.size w6 w' → RgAt w' W.heap.size r) := fun w' hB => HX3.out.later hB HX3.out.lt
      clear hL HAr HX3 HLi3 HA0 HA1 HN0 HN1 HF0 HF1 b0 b1
      go_wp2
      go_loopw [42] (fun i wr => ∃ k : Nat, k ≤ 5 ∧ i = .int .i64 k ∧ Below w6.heap.size w6 wr) (fun i _ => 5 - (intOf i).toNat)
      case atStart => exact ⟨0, by omega, rfl, Below.refl _ _⟩
      case round =>
        obtain ⟨k, hk, rfl, hB⟩ := hrel
        have HB : Hid (Below w6.heap.size w6 wr) := hB
        clear hB
        by_cases hkn : k < 5
        · have hki : (k : Int) < 5 := by omega
          obtain ⟨vx, xs, vy, ys, ⟨hvx, hvy⟩, hRs, ⟨hfx, hfy⟩, hlx, hly⟩ := HP.out k hkn
          have HRx : Hid (∀ w', Below w6.heap.size w6 w' → Rngs w' vx xs) := fun w' h => (hRs w' h).1
          have HRy : Hid (∀ w', Below w6.heap.size w6 w' → Rngs w' vy ys) := fun w' h => (hRs w' h).2
          have HFx : Hid (∀ s ∈ xs, SpanMath.Fit s) := hfx
          have HFy : Hid (∀ s ∈ ys, SpanMath.Fit s) := hfy
          have HLx : Hid (xs.length ≤ 1000000) := by show _ ≤ _; omega
          have HLy : Hid (ys.length ≤ 1000000) := by show _ ≤ _; omega
          have HR0 : Hid (wr.rangeAt gL (k * 2) [vx, vy]) := fun j v hv => by
            have h := Arr.cell (HA2.out wr HB.out) (k * 2 + j)
            rw [h]
            rcases (show j = 0 ∨ j = 1 ∨ 2 ≤ j by omega) with rfl | rfl | hj
            · simp at hv; subst hv; exact hvx
            · simp at hv; subst hv; exact hvy
            · rw [List.getElem?_eq_none (by simpa using hj)] at hv; cases hv
          have HOc : Hid (∀ v ∈ [vx, vy], v.oneCell' = true) := fun v hv => by
            obtain ⟨aa, cc, e1, _⟩ := hRs wr HB.out |>.1
            obtain ⟨aa2, cc2, e2, _⟩ := hRs wr HB.out |>.2
            simp at hv
            rcases hv with rfl | rfl
            · rw [e1]; rfl
            · rw [e2]; rfl
          clear hvx hvy hRs hfx hfy hlx hly
          have HAn : Hid (Arr (wr.alloc (.cells #[.slice none 0 0, .slice none 0 0] 26)) wr.heap.size 26 [.slice none 0 0, .slice none 0 0]) := Arr.new wr 26 [.slice none 0 0, .slice none 0 0] rfl
          have HAs : Hid (Arr ((wr.alloc (.cells #[.slice none 0 0, .slice none 0 0] 26)).setRow wr.heap.size [vx, vy].toArray) wr.heap.size 26 [vx, vy]) := Arr.row HAn.out
          have hl : Below wr.heap.size wr ((wr.alloc (.cells #[.slice none 0 0, .slice none 0 0] 26)).setRow wr.heap.size [vx, vy].toArray) := below_setRow ((Below.refl _ _).alloc (Nat.le_refl _) _) (Nat.le_refl _) _
          have HB1 : Hid (Below w6.heap.size w6 _) := HB.out.trans (hl.mono HB.out.size)
          clear hl
          go_upto_region 9 with (first
            | refine wpList_load_mid rfl 26 (.tmp 44) rfl gL (k * 2) rfl [vx, vy] _ HR0.out Try.underlying26 rfl sizePair ?_
            | refine wpList_store_arr rfl 26 (.tmp 11) (.tmp 45) rfl wr.heap.size 26 [.slice none 0 0, .slice none 0 0] [vx, vy] rfl rfl HAn.out sizePair rfl HOc.out ?_)
          clear HAn HR0 HOc HB
          generalize (wr.alloc (.cells #[.slice none 0 0, .slice none 0 0] 26)).setRow wr.heap.size [vx, vy].toArray = w7 at *
          generalize wr.heap.size = gp at *
          have p0 : w7.cell? ⟨gp, 0, none⟩ = some vx := Arr.cell HAs.out 0
          have p1 : w7.cell? ⟨gp, 1, none⟩ = some vy := Arr.cell HAs.out 1
          have hne : Nonempty (Grown1 w7) := ⟨⟨w7, Below.refl _ _⟩⟩
          have p0' := fun u : Grown1 w7 => grown1_cell p0 u
          have p1' := fun u : Grown1 w7 => grown1_cell p1 u
          clear p0 p1 HAs
          (try simp only [Act.put])
          refine wp_region_grow (by kernel_rfl) (by kernel_rfl) ?_
          repeat (go_big_quiet_step (fail))
          refine wpQuiet_nil ?_
          intro _ hw'
          obtain ⟨n1, hw''⟩ := hw'
          subst hw''
          have HB2 : Hid (Below w6.heap.size w6 n1.w) := HB1.out.trans (n1.below.mono HB1.out.size)
          clear p0' p1' HB1
          generalize n1.w = w8 at *
          clear hne n1
          have HEr : Hid (∀ b : Bool, (b != b) = false) := by show ∀ b : Bool, _; decide
          have q1 : (SpanMath.right xs != SpanMath.right xs) = false := HEr.out _
          have q2 : (SpanMath.has xs n != SpanMath.has xs n) = false := HEr.out _
          have q3 : (SpanMath.count xs != SpanMath.count xs) = false := by simp
          have q4 : (SpanMath.first xs != SpanMath.first xs) = false := by simp
          go_wp2_with fail
          refine Calls.mono (spanRight_any vx xs w8 (HRx.out w8 HB2.out) HFx.out) ?_
          rintro e w11 ⟨rfl, hb11⟩
          have HL11 : Hid (Below w6.heap.size w6 w11) := HB2.out.trans (hb11.mono HB2.out.size)
          clear HB2 hb11
          go_wp2_with fail
          refine Calls.mono (refRight_r vx xs w11 (HRx.out w11 HL11.out) HFx.out) ?_
          rintro e w12 ⟨rfl, hb12⟩
          have HL12 : Hid (Below w6.heap.size w6 w12) := HL11.out.trans (hb12.mono HL11.out.size)
          clear HL11 hb12
          go_wp2_with fail
          refine Calls.mono (spanHas_any vx xs n w12 (HRx.out w12 HL12.out) HFx.out hw1 hw2) ?_
          rintro e w13 ⟨rfl, hb13⟩
          have HL13 : Hid (Below w6.heap.size w6 w13) := HL12.out.trans (hb13.mono HL12.out.size)
          clear HL12 hb13
          go_wp2_with fail
          refine Calls.mono (refHas_r vx xs n w13 (HRx.out w13 HL13.out) HFx.out) ?_
          rintro e w14 ⟨rfl, hb14⟩
          have HL14 : Hid (Below w6.heap.size w6 w14) := HL13.out.trans (hb14.mono HL13.out.size)
          clear HL13 hb14
          go_wp2_with fail
          refine Calls.mono (spanCount_any vx xs w14 (HRx.out w14 HL14.out) HFx.out) ?_
          rintro e w15 ⟨rfl, hb15⟩
          have HL15 : Hid (Below w6.heap.size w6 w15) := HL14.out.trans (hb15.mono HL14.out.size)
          clear HL14 hb15
          go_wp2_with fail
          refine Calls.mono (refCount_r vx xs w15 (HRx.out w15 HL15.out) HFx.out) ?_
          rintro e w16 ⟨rfl, hb16⟩
          have HL16 : Hid (Below w6.heap.size w6 w16) := HL15.out.trans (hb16.mono HL15.out.size)
          clear HL15 hb16
          go_wp2_with fail
          refine Calls.mono (spanFirst_any vx xs w16 (HRx.out w16 HL16.out) HFx.out) ?_
          rintro e w17 ⟨rfl, hb17⟩
          have HL17 : Hid (Below w6.heap.size w6 w17) := HL16.out.trans (hb17.mono HL16.out.size)
          clear HL16 hb17
          go_wp2_with fail
          refine Calls.mono (refFirst_r vx xs w17 (HRx.out w17 HL17.out) HFx.out) ?_
          rintro e w18 ⟨rfl, hb18⟩
          have HL18 : Hid (Below w6.heap.size w6 w18) := HL17.out.trans (hb18.mono HL17.out.size)
          clear HL17 hb18
          go_wp2_with fail
          refine Calls.mono (spanJoin_any vx vy xs ys w18 (HRx.out w18 HL18.out) (HRy.out w18 HL18.out) HFx.out HFy.out HLx.out HLy.out) ?_
          rintro e w19 ⟨v19, rfl, hv19, hb19⟩
          have Hj19 : Hid (Rngs w19 v19 (SpanMath.join xs ys)) := hv19
          have HL19 : Hid (Below w6.heap.size w6 w19) := HL18.out.trans (hb19.mono HL18.out.size)
          clear hv19 HL18 hb19
          go_wp2_with fail
          refine Calls.mono (refJoin_r vx vy xs ys w19 (HRx.out w19 HL19.out) (HRy.out w19 HL19.out) HFx.out HFy.out HLx.out HLy.out) ?_
          rintro e w20 ⟨v20, rfl, hv20, hb20⟩
          have Hj20 : Hid (Rngs w20 v19 (SpanMath.join xs ys)) := Rngs.later Hj19.out hb20
          have Hq20 : Hid (Rngs w20 v20 (SpanMath.join xs ys)) := hv20
          have HL20 : Hid (Below w6.heap.size w6 w20) := HL19.out.trans (hb20.mono HL19.out.size)
          clear Hj19 hv20 HL19 hb20
          go_wp2_with fail
          refine Calls.mono (same_any w20 Hj20.out Hq20.out) ?_
          rintro e w21 ⟨rfl, hb21⟩
          have Hj21 : Hid (Rngs w21 v19 (SpanMath.join xs ys)) := Rngs.later Hj20.out hb21
          have Hq21 : Hid (Rngs w21 v20 (SpanMath.join xs ys)) := Rngs.later Hq20.out hb21
          have HL21 : Hid (Below w6.heap.size w6 w21) := HL20.out.trans (hb21.mono HL20.out.size)
          clear Hj20 Hq20 HL20 hb21
          clear Hj21 Hq21
          go_wp2_with fail
          refine Calls.mono (spanMinus_any vx vy xs ys w21 (HRx.out w21 HL21.out) (HRy.out w21 HL21.out) HFx.out HFy.out HLx.out HLy.out) ?_
          rintro e w22 ⟨v22, rfl, hv22, hb22⟩
          have Hj22 : Hid (Rngs w22 v22 (SpanMath.minus xs ys)) := hv22
          have HL22 : Hid (Below w6.heap.size w6 w22) := HL21.out.trans (hb22.mono HL21.out.size)
          clear hv22 HL21 hb22
          go_wp2_with fail
          refine Calls.mono (refMinus_r vx vy xs ys w22 (HRx.out w22 HL22.out) (HRy.out w22 HL22.out) HFx.out HFy.out HLx.out HLy.out) ?_
          rintro e w23 ⟨v23, rfl, hv23, hb23⟩
          have Hj23 : Hid (Rngs w23 v22 (SpanMath.minus xs ys)) := Rngs.later Hj22.out hb23
          have Hq23 : Hid (Rngs w23 v23 (SpanMath.minus xs ys)) := hv23
          have HL23 : Hid (Below w6.heap.size w6 w23) := HL22.out.trans (hb23.mono HL22.out.size)
          clear Hj22 hv23 HL22 hb23
          go_wp2_with fail
          refine Calls.mono (same_any w23 Hj23.out Hq23.out) ?_
          rintro e w24 ⟨rfl, hb24⟩
          have Hj24 : Hid (Rngs w24 v22 (SpanMath.minus xs ys)) := Rngs.later Hj23.out hb24
          have Hq24 : Hid (Rngs w24 v23 (SpanMath.minus xs ys)) := Rngs.later Hq23.out hb24
          have HL24 : Hid (Below w6.heap.size w6 w24) := HL23.out.trans (hb24.mono HL23.out.size)
          clear Hj23 Hq23 HL23 hb24
          clear Hj24 Hq24
          obtain ⟨z0, z1⟩ := (HX4.out w24 HL24.out).cells
          have hA := spanAdd_any vx xs r w24 (HRx.out w24 HL24.out) HFx.out HFr.out HLx.out
          rw [← SpanMath.join_one] at hA
          unfold rgV at hA
          have HAd : Hid _ := hA
          clear hA
          go_wp2_with fail
          refine Calls.mono (HAd.out) ?_
          rintro e w25 ⟨v25, rfl, hv25, hb25⟩
          have Hj25 : Hid (Rngs w25 v25 (SpanMath.join xs [r])) := hv25
          have HL25 : Hid (Below w6.heap.size w6 w25) := HL24.out.trans (hb25.mono HL24.out.size)
          clear hv25 HL24 hb25
          clear z0 z1 HAd
          go_wp2_with fail
          refine Calls.mono (refJoin_r vx (.slice (some ⟨g1, 0, none⟩) 1 1) xs [r] w25 (HRx.out w25 HL25.out) (HO.out w25 HL25.out) HFx.out HFo.out HLx.out (by simp)) ?_
          rintro e w26 ⟨v26, rfl, hv26, hb26⟩
          have Hj26 : Hid (Rngs w26 v25 (SpanMath.join xs [r])) := Rngs.later Hj25.out hb26
          have Hq26 : Hid (Rngs w26 v26 (SpanMath.join xs [r])) := hv26
          have HL26 : Hid (Below w6.heap.size w6 w26) := HL25.out.trans (hb26.mono HL25.out.size)
          clear Hj25 hv26 HL25 hb26
          go_wp2_with fail
          refine Calls.mono (same_any w26 Hj26.out Hq26.out) ?_
          rintro e w27 ⟨rfl, hb27⟩
          have Hj27 : Hid (Rngs w27 v25 (SpanMath.join xs [r])) := Rngs.later Hj26.out hb27
          have Hq27 : Hid (Rngs w27 v26 (SpanMath.join xs [r])) := Rngs.later Hq26.out hb27
          have HL27 : Hid (Below w6.heap.size w6 w27) := HL26.out.trans (hb27.mono HL26.out.size)
          clear Hj26 Hq26 HL26 hb27
          clear Hj27 Hq27
          clear q1 q2 q3 q4
          go_wp2
          go_roundw
          case rel => exact ⟨k + 1, by omega, by go_num, HL27.out⟩
          case measure => simp [intOf]; omega
        · have hkk : k = 5 := by omega
          have hdk : decide ((k : Int) < 5) = false := by simp; omega
          have HB9 : Hid (Below W.heap.size W wr) := HB3.out.trans (HB.out.mono HB3.out.size)
          clear hkk
          go_wp2
          go_ret
          exact ⟨rfl, HB9.out⟩
    · have b0 : decide ((60 : Int) < (n0 : Int)) = false := decide_eq_false (by omega)
      have b1 : decide ((60 : Int) < (n1 : Int)) = true := decide_eq_true (by omega)
      go_enter Try.func3, Try.ntmps3
      go_upto_region 1 with (fail)
      generalize W.alloc (.cells #[.int .i64 r.f, .int .i64 r.t] 24) = w0 at *
      go_wp2_with fail
      refine Calls.mono (HK.out _) ?_
      rintro e w1 ⟨rfl, hb1⟩
      have HB1 : Hid (Below W.heap.size W w1) := HB0.out.trans (hb1.mono HB0.out.size)
      clear hb1
      go_wp2
      go_ret
      exact ⟨rfl, HB1.out⟩
  · have b0 : decide ((60 : Int) < (n0 : Int)) = true := decide_eq_true (by omega)
    go_enter Try.func3, Try.ntmps3
    go_upto_region 1 with (fail)
    generalize W.alloc (.cells #[.int .i64 r.f, .int .i64 r.t] 24) = w0 at *
    go_wp2_with fail
    refine Calls.mono (HK.out _) ?_
    rintro e w1 ⟨rfl, hb1⟩
    have HB1 : Hid (Below W.heap.size W w1) := HB0.out.trans (hb1.mono HB0.out.size)
    clear hb1
    go_wp2
    go_ret
    exact ⟨rfl, HB1.out⟩
end Go.Proofs.Ytnkjfenibgiaaaa
