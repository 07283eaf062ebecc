/-
  Walk of newsreellaw9.DotOrder.
-/
import Derived.Test.YtehaeepihjookaaL9Known
namespace Go.Proofs.Ytehaeepihjookaa
open Go.RowKit NumMath
open DotMath (Dt)
set_option maxRecDepth 100000
set_option linter.unusedVariables false
set_option linter.unusedSimpArgs false

theorem DRow.cells0 {w : World} {g : Nat} {ds : List Dt} (h : DRow w (some ⟨g, 0, none⟩) ds) {i : Nat} (hi : i < ds.length) :
    w.cell? ⟨g, i * 2, none⟩ = some (.int .i64 (ds[i]?.getD DotMath.zero).r) ∧ w.cell? ⟨g, i * 2 + 1, none⟩ = some (.int .i64 (ds[i]?.getD DotMath.zero).s) := by
  have := DRow.cells h hi
  simpa only [Nat.zero_add] using this
theorem order_cases (x y : Dt) : (DotMath.less x y = true ∧ DotMath.less y x = false) ∨ (DotMath.less x y = false ∧ DotMath.less y x = true) ∨ (DotMath.less x y = false ∧ DotMath.less y x = false ∧ x = y) := by
  cases h : DotMath.less x y with
  | true => exact .inl ⟨rfl, DotMath.less_asymm h⟩
  | false =>
    cases h2 : DotMath.less y x with
    | true => exact .inr (.inl ⟨rfl, rfl⟩)
    | false => exact .inr (.inr ⟨rfl, rfl, DotMath.less_total h h2⟩)

set_option maxHeartbeats 16000000 in
theorem dotOrder_walk (a b c : Dt) (W : World) (hfa : DotMath.Fit a) (hfb : DotMath.Fit b) (hfc : DotMath.Fit c) :
    Calls Try.prog 3 #[dtV a, dtV b, dtV c] W fun r W' => r = .returned (.bool true) ∧ Below W.heap.size W W' := by
  have HKn : Hid (∀ w, _) := fun w => known_any w
  have HA0 : Hid (DtAt (((W.alloc (.cells #[.int .i64 a.r, .int .i64 a.s] 23)).alloc (.cells #[.int .i64 b.r, .int .i64 b.s] 23)).alloc (.cells #[.int .i64 c.r, .int .i64 c.s] 23)) W.heap.size a) := ((DtAt.new W a rfl).alloc _).alloc _
  have HB0 : Hid (DtAt (((W.alloc (.cells #[.int .i64 a.r, .int .i64 a.s] 23)).alloc (.cells #[.int .i64 b.r, .int .i64 b.s] 23)).alloc (.cells #[.int .i64 c.r, .int .i64 c.s] 23)) (W.heap.size + 1) b) := (DtAt.new _ b (by simp)).alloc _
  have HC0 : Hid (DtAt (((W.alloc (.cells #[.int .i64 a.r, .int .i64 a.s] 23)).alloc (.cells #[.int .i64 b.r, .int .i64 b.s] 23)).alloc (.cells #[.int .i64 c.r, .int .i64 c.s] 23)) (W.heap.size + 2) c) := DtAt.new _ c (by simp)
  have HL0 : Hid (Below W.heap.size W (((W.alloc (.cells #[.int .i64 a.r, .int .i64 a.s] 23)).alloc (.cells #[.int .i64 b.r, .int .i64 b.s] 23)).alloc (.cells #[.int .i64 c.r, .int .i64 c.s] 23))) := (((Below.refl _ _).alloc (Nat.le_refl _) _).alloc (by simp) _).alloc (by simp; omega) _
  unfold dtV
  go_enter Try.func3, Try.ntmps3
  go_upto_region 1 with (fail)
  generalize ((W.alloc (.cells #[.int .i64 a.r, .int .i64 a.s] 23)).alloc (.cells #[.int .i64 b.r, .int .i64 b.s] 23)).alloc (.cells #[.int .i64 c.r, .int .i64 c.s] 23) = w0 at *
  generalize hga : W.heap.size = ga at HA0 HB0 HC0 ⊢
  go_wp2_with fail
  refine Calls.mono (HKn.out _) ?_
  rintro r w21 ⟨rfl, hb21⟩
  have HA22 : Hid (DtAt w21 ga a) := HA0.out.later hb21 HA0.out.lt
  have HB23 : Hid (DtAt w21 (ga + 1) b) := HB0.out.later hb21 HB0.out.lt
  have HC24 : Hid (DtAt w21 (ga + 2) c) := HC0.out.later hb21 HC0.out.lt
  have HB25 : Hid (Below W.heap.size W w21) := HL0.out.trans (hb21.mono HL0.out.size)
  clear HA0 HB0 HC0 HL0 hb21
  obtain ⟨A_0, A_1⟩ := HA22.out.cells
  obtain ⟨B_0, B_1⟩ := HB23.out.cells
  obtain ⟨C_0, C_1⟩ := HC24.out.cells
  have HG0 : Hid (DRow (w21.alloc (.cells #[.int .i64 a.r, .int .i64 a.s, .int .i64 b.r, .int .i64 b.s, .int .i64 c.r, .int .i64 c.s, .int .i64 a.r, .int .i64 b.s] 23)) (some ⟨w21.heap.size, 0, none⟩) [a, b, c, ⟨a.r, b.s⟩]) := lit_dots w21 [a, b, c, ⟨a.r, b.s⟩] rfl
  have HL1 : Hid (Below W.heap.size W (w21.alloc (.cells #[.int .i64 a.r, .int .i64 a.s, .int .i64 b.r, .int .i64 b.s, .int .i64 c.r, .int .i64 c.s, .int .i64 a.r, .int .i64 b.s] 23))) := HB25.out.alloc HB25.out.size _
  go_upto_region 4 with (fail)
  clear A_0 A_1 B_0 B_1 C_0 C_1 HB25
  generalize w21.alloc (.cells #[.int .i64 a.r, .int .i64 a.s, .int .i64 b.r, .int .i64 b.s, .int .i64 c.r, .int .i64 c.s, .int .i64 a.r, .int .i64 b.s] 23) = w1 at *
  generalize w21.heap.size = g at *
  have HGc : Hid (∀ w i, i < 4 → DRow w (some ⟨g, 0, none⟩) [a, b, c, ⟨a.r, b.s⟩] → _) := fun w i hi h => DRow.cells0 h (i := i) (by simpa using hi)
  obtain ⟨L, hL⟩ : ∃ L : List Dt, L = [a, b, c, ⟨a.r, b.s⟩] := ⟨_, rfl⟩
  rw [← hL] at HG0 HGc
  clear hL HKn
  go_wp2
  go_loopw [8] (fun i wr => ∃ m : Nat, m ≤ 4 ∧ i = .int .i64 m ∧ DRow wr (some ⟨g, 0, none⟩) L ∧ Below W.heap.size W wr) (fun i _ => 4 - (intOf i).toNat)
  case atStart => exact ⟨0, by omega, rfl, HG0.out, HL1.out⟩
  case round =>
    obtain ⟨m, hm, rfl, hG, hB⟩ := hrel
    have HG : Hid (DRow wr (some ⟨g, 0, none⟩) L) := hG
    have HB : Hid (Below W.heap.size W wr) := hB
    clear hG hB HG0 HL1
    by_cases hmn : m < 4
    · have hmi : (m : Int) < 4 := by omega
      have HGm : Hid (∀ w, DRow w (some ⟨g, 0, none⟩) L → _) := fun w h => HGc.out w m hmn h
      have HR1 : Hid (∀ u : Grown1 wr, _) := fun u => dotRight_any (L[m]?.getD DotMath.zero) u.w
      have HR2 : Hid (∀ u : Grown1 wr, _) := fun u => refDotRight_any (L[m]?.getD DotMath.zero) u.w
      have HLx : Hid (∀ y w, _) := fun y w => dotLess_any (L[m]?.getD DotMath.zero) y w
      have HLy : Hid (∀ y w, _) := fun y w => dotLess_any y (L[m]?.getD DotMath.zero) w
      have HLr : Hid (∀ y w, _) := fun y w => refDotLess_any (L[m]?.getD DotMath.zero) y w
      generalize L[m]?.getD DotMath.zero = x at *
      unfold dtV at HR1 HR2
      go_upto_region 7 with (fail)
      obtain ⟨p0, p1⟩ := HGm.out _ HG.out
      have hne : Nonempty (Grown1 wr) := ⟨⟨wr, Below.refl _ _⟩⟩
      have p0' := fun u : Grown1 wr => grown1_cell p0 u
      have p1' := fun u : Grown1 wr => grown1_cell p1 u
      clear p0 p1
      (try simp only [Act.put])
      refine wp_region_grow (by kernel_rfl) (by kernel_rfl) ?_
      repeat (go_big_quiet_step (first | with_reducible exact grown1_call _ (HR1.out _) | with_reducible exact grown1_call _ (HR2.out _) | fail))
      refine wpQuiet_nil ?_
      intro _ hw'
      obtain ⟨n1, hw''⟩ := hw'
      subst hw''
      have HG7 : Hid (DRow n1.w (some ⟨g, 0, none⟩) L) := DRow.later HG.out n1.below
      have HB7 : Hid (Below W.heap.size W n1.w) := HB.out.trans (n1.below.mono HB.out.size)
      clear HG HB HR1 HR2 p0' p1'
      generalize n1.w = u7 at *
      clear hne n1
      go_wp2
      go_loopw [9, 10] (fun i z wr => ∃ n : Nat, n ≤ 4 ∧ i = .int .i64 n ∧ DRow wr (some ⟨g, 0, none⟩) L ∧ Below W.heap.size W wr) (fun i _ _ => 4 - (intOf i).toNat)
      case atStart => exact ⟨0, by omega, rfl, HG7.out, HB7.out⟩
      case round =>
        obtain ⟨n, hn, rfl, hG, hB⟩ := hrel
        clear HG7 HB7
        have HG : Hid (DRow wr (some ⟨g, 0, none⟩) L) := hG
        have HB : Hid (Below W.heap.size W wr) := hB
        clear hG hB
        by_cases hnn : n < 4
        · have hni : (n : Int) < 4 := by omega
          have HGn : Hid (∀ w, DRow w (some ⟨g, 0, none⟩) L → _) := fun w h => HGc.out w n hnn h
          have HLx2 : Hid (∀ w, _) := fun w => HLx.out (L[n]?.getD DotMath.zero) w
          have HLy2 : Hid (∀ w, _) := fun w => HLy.out (L[n]?.getD DotMath.zero) w
          have HLr2 : Hid (∀ w, _) := fun w => HLr.out (L[n]?.getD DotMath.zero) w
          generalize L[n]?.getD DotMath.zero = y at *
          unfold dtV at HLx2 HLy2 HLr2
          rcases order_cases x y with ⟨c1, c2⟩ | ⟨c1, c2⟩ | ⟨c1, c2, rfl⟩
          · rw [c1] at HLx2 HLr2
            rw [c2] at HLy2
            go_upto_region 12 with (fail)
            have HX1 : Hid (∀ u : Grown1 wr, _) := fun u => HLx2.out u.w
            obtain ⟨p0, p1⟩ := HGm.out _ HG.out
            obtain ⟨q0, q1⟩ := HGn.out _ HG.out
            have hne : Nonempty (Grown1 wr) := ⟨⟨wr, Below.refl _ _⟩⟩
            have p0' := fun u : Grown1 wr => grown1_cell p0 u
            have p1' := fun u : Grown1 wr => grown1_cell p1 u
            have q0' := fun u : Grown1 wr => grown1_cell q0 u
            have q1' := fun u : Grown1 wr => grown1_cell q1 u
            clear p0 p1 q0 q1
            (try simp only [Act.put])
            refine wp_region_grow (by kernel_rfl) (by kernel_rfl) ?_
            repeat (go_big_quiet_step (first | with_reducible exact grown1_call _ (HX1.out _) | fail))
            refine wpQuiet_nil ?_
            intro _ hw'
            obtain ⟨n1, hw''⟩ := hw'
            subst hw''
            have HG7 : Hid (DRow n1.w (some ⟨g, 0, none⟩) L) := DRow.later HG.out n1.below
            have HB7 : Hid (Below W.heap.size W n1.w) := HB.out.trans (n1.below.mono HB.out.size)
            clear HG HB HX1 p0' p1' q0' q1'
            generalize n1.w = u7 at *
            clear hne n1
            go_upto_region 13 with (fail)
            have HX2 : Hid (∀ u : Grown1 u7, _) := fun u => HLr2.out u.w
            have HX3 : Hid (∀ u : Grown1 u7, _) := fun u => HLy2.out u.w
            obtain ⟨p0, p1⟩ := HGm.out _ HG7.out
            obtain ⟨q0, q1⟩ := HGn.out _ HG7.out
            have hne : Nonempty (Grown1 u7) := ⟨⟨u7, Below.refl _ _⟩⟩
            have p0' := fun u : Grown1 u7 => grown1_cell p0 u
            have p1' := fun u : Grown1 u7 => grown1_cell p1 u
            have q0' := fun u : Grown1 u7 => grown1_cell q0 u
            have q1' := fun u : Grown1 u7 => grown1_cell q1 u
            clear p0 p1 q0 q1
            (try simp only [Act.put])
            refine wp_region_grow (by kernel_rfl) (by kernel_rfl) ?_
            repeat (go_big_quiet_step (first | with_reducible exact grown1_call _ (HX2.out _) | with_reducible exact grown1_call _ (HX3.out _) | fail))
            refine wpQuiet_nil ?_
            intro _ hw'
            obtain ⟨n1, hw''⟩ := hw'
            subst hw''
            have HG8 : Hid (DRow n1.w (some ⟨g, 0, none⟩) L) := DRow.later HG7.out n1.below
            have HB8 : Hid (Below W.heap.size W n1.w) := HB7.out.trans (n1.below.mono HB7.out.size)
            clear HG7 HB7 HX2 HX3 p0' p1' q0' q1'
            generalize n1.w = u8 at *
            clear hne n1
            go_wp2
            go_roundw
            case rel => exact ⟨n + 1, by omega, by go_num, HG8.out, HB8.out⟩
            case measure => simp [intOf]; omega
          · rw [c1] at HLx2 HLr2
            rw [c2] at HLy2
            go_upto_region 12 with (fail)
            have HX1 : Hid (∀ u : Grown1 wr, _) := fun u => HLx2.out u.w
            obtain ⟨p0, p1⟩ := HGm.out _ HG.out
            obtain ⟨q0, q1⟩ := HGn.out _ HG.out
            have hne : Nonempty (Grown1 wr) := ⟨⟨wr, Below.refl _ _⟩⟩
            have p0' := fun u : Grown1 wr => grown1_cell p0 u
            have p1' := fun u : Grown1 wr => grown1_cell p1 u
            have q0' := fun u : Grown1 wr => grown1_cell q0 u
            have q1' := fun u : Grown1 wr => grown1_cell q1 u
            clear p0 p1 q0 q1
            (try simp only [Act.put])
            refine wp_region_grow (by kernel_rfl) (by kernel_rfl) ?_
            repeat (go_big_quiet_step (first | with_reducible exact grown1_call _ (HX1.out _) | fail))
            refine wpQuiet_nil ?_
            intro _ hw'
            obtain ⟨n1, hw''⟩ := hw'
            subst hw''
            have HG7 : Hid (DRow n1.w (some ⟨g, 0, none⟩) L) := DRow.later HG.out n1.below
            have HB7 : Hid (Below W.heap.size W n1.w) := HB.out.trans (n1.below.mono HB.out.size)
            clear HG HB HX1 p0' p1' q0' q1'
            generalize n1.w = u7 at *
            clear hne n1
            go_upto_region 13 with (fail)
            have HX2 : Hid (∀ u : Grown1 u7, _) := fun u => HLr2.out u.w
            have HX3 : Hid (∀ u : Grown1 u7, _) := fun u => HLy2.out u.w
            obtain ⟨p0, p1⟩ := HGm.out _ HG7.out
            obtain ⟨q0, q1⟩ := HGn.out _ HG7.out
            have hne : Nonempty (Grown1 u7) := ⟨⟨u7, Below.refl _ _⟩⟩
            have p0' := fun u : Grown1 u7 => grown1_cell p0 u
            have p1' := fun u : Grown1 u7 => grown1_cell p1 u
            have q0' := fun u : Grown1 u7 => grown1_cell q0 u
            have q1' := fun u : Grown1 u7 => grown1_cell q1 u
            clear p0 p1 q0 q1
            (try simp only [Act.put])
            refine wp_region_grow (by kernel_rfl) (by kernel_rfl) ?_
            repeat (go_big_quiet_step (first | with_reducible exact grown1_call _ (HX2.out _) | with_reducible exact grown1_call _ (HX3.out _) | fail))
            refine wpQuiet_nil ?_
            intro _ hw'
            obtain ⟨n1, hw''⟩ := hw'
            subst hw''
            have HG8 : Hid (DRow n1.w (some ⟨g, 0, none⟩) L) := DRow.later HG7.out n1.below
            have HB8 : Hid (Below W.heap.size W n1.w) := HB7.out.trans (n1.below.mono HB7.out.size)
            clear HG7 HB7 HX2 HX3 p0' p1' q0' q1'
            generalize n1.w = u8 at *
            clear hne n1
            go_wp2
            go_roundw
            case rel => exact ⟨n + 1, by omega, by go_num, HG8.out, HB8.out⟩
            case measure => simp [intOf]; omega
          · rw [c1] at HLx2 HLr2 HLy2
            go_upto_region 12 with (fail)
            have HX1 : Hid (∀ u : Grown1 wr, _) := fun u => HLx2.out u.w
            obtain ⟨p0, p1⟩ := HGm.out _ HG.out
            obtain ⟨q0, q1⟩ := HGn.out _ HG.out
            have hne : Nonempty (Grown1 wr) := ⟨⟨wr, Below.refl _ _⟩⟩
            have p0' := fun u : Grown1 wr => grown1_cell p0 u
            have p1' := fun u : Grown1 wr => grown1_cell p1 u
            have q0' := fun u : Grown1 wr => grown1_cell q0 u
            have q1' := fun u : Grown1 wr => grown1_cell q1 u
            clear p0 p1 q0 q1
            (try simp only [Act.put])
            refine wp_region_grow (by kernel_rfl) (by kernel_rfl) ?_
            repeat (go_big_quiet_step (first | with_reducible exact grown1_call _ (HX1.out _) | fail))
            refine wpQuiet_nil ?_
            intro _ hw'
            obtain ⟨n1, hw''⟩ := hw'
            subst hw''
            have HG7 : Hid (DRow n1.w (some ⟨g, 0, none⟩) L) := DRow.later HG.out n1.below
            have HB7 : Hid (Below W.heap.size W n1.w) := HB.out.trans (n1.below.mono HB.out.size)
            clear HG HB HX1 p0' p1' q0' q1'
            generalize n1.w = u7 at *
            clear hne n1
            go_upto_region 13 with (fail)
            have HX2 : Hid (∀ u : Grown1 u7, _) := fun u => HLr2.out u.w
            have HX3 : Hid (∀ u : Grown1 u7, _) := fun u => HLy2.out u.w
            obtain ⟨p0, p1⟩ := HGm.out _ HG7.out
            obtain ⟨q0, q1⟩ := HGn.out _ HG7.out
            have hne : Nonempty (Grown1 u7) := ⟨⟨u7, Below.refl _ _⟩⟩
            have p0' := fun u : Grown1 u7 => grown1_cell p0 u
            have p1' := fun u : Grown1 u7 => grown1_cell p1 u
            have q0' := fun u : Grown1 u7 => grown1_cell q0 u
            have q1' := fun u : Grown1 u7 => grown1_cell q1 u
            clear p0 p1 q0 q1
            (try simp only [Act.put])
            refine wp_region_grow (by kernel_rfl) (by kernel_rfl) ?_
            repeat (go_big_quiet_step (first | with_reducible exact grown1_call _ (HX2.out _) | with_reducible exact grown1_call _ (HX3.out _) | fail))
            refine wpQuiet_nil ?_
            intro _ hw'
            obtain ⟨n1, hw''⟩ := hw'
            subst hw''
            have HG8 : Hid (DRow n1.w (some ⟨g, 0, none⟩) L) := DRow.later HG7.out n1.below
            have HB8 : Hid (Below W.heap.size W n1.w) := HB7.out.trans (n1.below.mono HB7.out.size)
            clear HG7 HB7 HX2 HX3 p0' p1' q0' q1'
            generalize n1.w = u8 at *
            clear hne n1
            go_wp2
            go_roundw
            case rel => exact ⟨n + 1, by omega, by go_num, HG8.out, HB8.out⟩
            case measure => simp [intOf]; omega
        · have hnk : n = 4 := by omega
          have hdk : decide ((n : Int) < 4) = false := by simp; omega
          go_wp2
          go_roundw
          case rel => exact ⟨m + 1, by omega, by go_num, HG.out, HB.out⟩
          case measure => simp [intOf]; omega
    · have hmk : m = 4 := by omega
      have hdk : decide ((m : Int) < 4) = false := by simp; omega
      go_wp2
      go_ret
      exact ⟨rfl, by first | exact HB.out | (rw [← hga]; exact HB.out)⟩
end Go.Proofs.Ytehaeepihjookaa
