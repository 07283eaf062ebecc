/-
  The walk of StampOrder.
-/
import Derived.Test.YtcgnkembfpcnnaaL7Known
import Derived.Deep.Cut
namespace Go.Proofs.Ytcgnkembfpcnnaa
open Go.RowKit NumMath
open StMath (St)
set_option maxRecDepth 100000
set_option linter.unusedVariables false
set_option linter.unusedSimpArgs false

theorem lit_range {w : World} {G : Nat} {L : List St} (h : SRow w (some ⟨G, 0, none⟩) L) (h4 : L.length = 4) {i : Nat} (hi : i < 4) : w.rangeAt G (i * 3) (stL (L[i]?.getD StMath.zero)) := by
  obtain ⟨b, off, e, hc⟩ := h.at (by omega)
  cases e
  have := hc i (by omega)
  rwa [Nat.zero_add] at this
theorem order_cases (x y : St) : (StMath.less x y = true ∧ Hid (StMath.less y x = false)) ∨ (StMath.less x y = false ∧ Hid (StMath.less y x = true)) ∨ (StMath.less x y = false ∧ Hid (StMath.less y x = false) ∧ Hid (x = y)) := by
  cases h1 : StMath.less x y with
  | true => exact .inl ⟨rfl, StMath.less_asym h1⟩
  | false =>
    cases h2 : StMath.less y x with
    | true => exact .inr (.inl ⟨rfl, rfl⟩)
    | false => exact .inr (.inr ⟨rfl, rfl, StMath.less_tri h1 h2⟩)

set_option maxRecDepth 100000 in
set_option maxHeartbeats 16000000 in
theorem stampOrder_walk (a b c : St) (k : Int) (W : World) (ha : StMath.Fit a) (hb : StMath.Fit b) (hc : StMath.Fit c) (wk : (Lit.int .u8 k).wf = true) :
    Calls Try.prog 3 #[stV a, stV b, stV c, .int .u8 k] W fun e W' => e = .returned (.bool true) ∧ Below W.heap.size W W' := by
  have hkb := bounds_u8 wk
  have HK : Hid (∀ w, _) := fun w => known_any w
  have HB0 : Hid (Below W.heap.size W (((W.alloc (.cells #[.int .i64 a.p, .int .i64 a.l, .int .i64 a.r] 23)).alloc (.cells #[.int .i64 b.p, .int .i64 b.l, .int .i64 b.r] 23)).alloc (.cells #[.int .i64 c.p, .int .i64 c.l, .int .i64 c.r] 23))) := (((Below.refl _ _).alloc (Nat.le_refl _) _).alloc (by simp) _).alloc (by simp; omega) _
  have HA0 : Hid (StAt (((W.alloc (.cells #[.int .i64 a.p, .int .i64 a.l, .int .i64 a.r] 23)).alloc (.cells #[.int .i64 b.p, .int .i64 b.l, .int .i64 b.r] 23)).alloc (.cells #[.int .i64 c.p, .int .i64 c.l, .int .i64 c.r] 23)) W.heap.size a) := ((StAt.new W a rfl).alloc _).alloc _
  have HBb : Hid (StAt (((W.alloc (.cells #[.int .i64 a.p, .int .i64 a.l, .int .i64 a.r] 23)).alloc (.cells #[.int .i64 b.p, .int .i64 b.l, .int .i64 b.r] 23)).alloc (.cells #[.int .i64 c.p, .int .i64 c.l, .int .i64 c.r] 23)) (W.heap.size + 1) b) := (StAt.new _ b (by simp)).alloc _
  have HC0 : Hid (StAt (((W.alloc (.cells #[.int .i64 a.p, .int .i64 a.l, .int .i64 a.r] 23)).alloc (.cells #[.int .i64 b.p, .int .i64 b.l, .int .i64 b.r] 23)).alloc (.cells #[.int .i64 c.p, .int .i64 c.l, .int .i64 c.r] 23)) (W.heap.size + 2) c) := StAt.new _ c (by simp)
  unfold stV at *
  clear ha hb hc wk
  go_enter Try.func3, Try.ntmps3
  go_wp2_with fail
  generalize ((W.alloc (.cells #[.int .i64 a.p, .int .i64 a.l, .int .i64 a.r] 23)).alloc (.cells #[.int .i64 b.p, .int .i64 b.l, .int .i64 b.r] 23)).alloc (.cells #[.int .i64 c.p, .int .i64 c.l, .int .i64 c.r] 23) = w0 at *
  refine Calls.mono (HK.out _) ?_
  rintro e w1 ⟨rfl, hb1⟩
  have HB1 : Hid (Below W.heap.size W w1) := HB0.out.trans (hb1.mono HB0.out.size)
  have HA1 : Hid (StAt w1 W.heap.size a) := HA0.out.later hb1 HA0.out.lt
  have HBb1 : Hid (StAt w1 (W.heap.size + 1) b) := HBb.out.later hb1 HBb.out.lt
  have HC1 : Hid (StAt w1 (W.heap.size + 2) c) := HC0.out.later hb1 HC0.out.lt
  have hlt1 : W.heap.size + 2 < w1.heap.size := HC1.out.lt
  clear hb1 HB0 HA0 HBb HC0 HK
  have HX0 : Hid (StAt (w1.alloc (.cells #[.int .i64 0, .int .i64 0, .int .i64 0] 23)) w1.heap.size StMath.zero) := StAt.new w1 StMath.zero rfl
  have HXa : Hid (StAt ((w1.alloc (.cells #[.int .i64 0, .int .i64 0, .int .i64 0] 23)).setRow w1.heap.size (stL a).toArray) w1.heap.size a) := StAt.row HX0.out
  have HAa : Hid (StAt ((w1.alloc (.cells #[.int .i64 0, .int .i64 0, .int .i64 0] 23)).setRow w1.heap.size (stL a).toArray) W.heap.size a) := StAt.row_other (HA1.out.alloc _) _ (by omega)
  have HBa : Hid (StAt ((w1.alloc (.cells #[.int .i64 0, .int .i64 0, .int .i64 0] 23)).setRow w1.heap.size (stL a).toArray) (W.heap.size + 1) b) := StAt.row_other (HBb1.out.alloc _) _ (by omega)
  have HCa : Hid (StAt ((w1.alloc (.cells #[.int .i64 0, .int .i64 0, .int .i64 0] 23)).setRow w1.heap.size (stL a).toArray) (W.heap.size + 2) c) := StAt.row_other (HC1.out.alloc _) _ (by omega)
  have HWa : Hid (Below W.heap.size W ((w1.alloc (.cells #[.int .i64 0, .int .i64 0, .int .i64 0] 23)).setRow w1.heap.size (stL a).toArray)) := below_setRow (HB1.out.alloc HB1.out.size _) HB1.out.size _
  go_upto_region 4 with (first
    | refine wpList_load_mid rfl 23 (.tmp 4) rfl W.heap.size 0 rfl (stL a) _ (range_of_arr HA1.out.arr) Try.underlying23 rfl sizeSt ?_
    | refine wpList_store_st rfl (.tmp 9) (.tmp 17) rfl w1.heap.size StMath.zero a rfl rfl HX0.out ?_)
  clear HX0 HA1 HBb1 HC1 HB1
  generalize (w1.alloc (.cells #[.int .i64 0, .int .i64 0, .int .i64 0] 23)).setRow w1.heap.size (stL a).toArray = w2 at *
  have hgd : W.heap.size + 2 < w1.heap.size := hlt1
  generalize w1.heap.size = gd at *
  have hk3 : (k % 3 == 0) = true ∨ ((k % 3 == 0) = false ∧ (k % 3 == 1) = true) ∨ ((k % 3 == 0) = false ∧ (k % 3 == 1) = false) := by
    cases h1 : (k % 3 == 0) <;> cases h2 : (k % 3 == 1) <;> simp
  obtain ⟨c0, c1, c2⟩ := HBa.out.cells
  obtain ⟨d0, d1, d2⟩ := HXa.out.cells
  have hfz := fun j => StAt.frozen HXa.out j
  rcases hk3 with q0 | ⟨q0, q1⟩ | ⟨q0, q1⟩
  · go_upto_region 10 with fail
    have HXd : Hid (StAt (w2.setCell ⟨gd, 2, none⟩ (.int .i64 b.r)) gd ⟨a.p, a.l, b.r⟩) := ⟨Arr.set HXa.out.arr 2 _⟩
    have HAd : Hid (StAt (w2.setCell ⟨gd, 2, none⟩ (.int .i64 b.r)) W.heap.size a) := ⟨Arr.set_other HAa.out.arr _ (by simp; omega) _⟩
    have HBd : Hid (StAt (w2.setCell ⟨gd, 2, none⟩ (.int .i64 b.r)) (W.heap.size + 1) b) := ⟨Arr.set_other HBa.out.arr _ (by simp; omega) _⟩
    have HCd : Hid (StAt (w2.setCell ⟨gd, 2, none⟩ (.int .i64 b.r)) (W.heap.size + 1 + 1) c) := ⟨Arr.set_other HCa.out.arr _ (by simp; omega) _⟩
    have HWd : Hid (Below W.heap.size W (w2.setCell ⟨gd, 2, none⟩ (.int .i64 b.r))) := HWa.out.setCell (by show W.heap.size ≤ gd; omega) _
    clear c0 c1 c2 d0 d1 d2 hfz HAa HBa HCa HWa HXa
    generalize (w2.setCell ⟨gd, 2, none⟩ (.int .i64 b.r)) = w3 at *
    obtain ⟨c0, c1, c2⟩ := HAd.out.cells
    obtain ⟨d0, d1, d2⟩ := HBd.out.cells
    obtain ⟨e0, e1, e2⟩ := HCd.out.cells
    obtain ⟨f0, f1, f2⟩ := HXd.out.cells
    dsimp only at f0 f1 f2
    go_upto_region 11 with fail
    have HR4 : Hid (SRow (w3.alloc (.cells #[.int .i64 a.p, .int .i64 a.l, .int .i64 a.r, .int .i64 b.p, .int .i64 b.l, .int .i64 b.r, .int .i64 c.p, .int .i64 c.l, .int .i64 c.r, .int .i64 a.p, .int .i64 a.l, .int .i64 b.r] 23)) (some ⟨w3.heap.size, 0, none⟩) [a, b, c, ⟨a.p, a.l, b.r⟩]) := arr_srow (Arr.new w3 23 ([a, b, c, ⟨a.p, a.l, b.r⟩].flatMap stL) rfl)
    have HW4 : Hid (Below W.heap.size W (w3.alloc (.cells #[.int .i64 a.p, .int .i64 a.l, .int .i64 a.r, .int .i64 b.p, .int .i64 b.l, .int .i64 b.r, .int .i64 c.p, .int .i64 c.l, .int .i64 c.r, .int .i64 a.p, .int .i64 a.l, .int .i64 b.r] 23))) := HWd.out.alloc HWd.out.size _
    have HL4 : Hid ([a, b, c, (⟨a.p, a.l, b.r⟩ : St)].length = 4) := rfl
    clear c0 c1 c2 d0 d1 d2 e0 e1 e2 f0 f1 f2 HAd HBd HCd HXd HWd
    generalize w3.alloc (.cells #[.int .i64 a.p, .int .i64 a.l, .int .i64 a.r, .int .i64 b.p, .int .i64 b.l, .int .i64 b.r, .int .i64 c.p, .int .i64 c.l, .int .i64 c.r, .int .i64 a.p, .int .i64 a.l, .int .i64 b.r] 23) = w4 at *
    generalize w3.heap.size = G at *
    generalize [a, b, c, (⟨a.p, a.l, b.r⟩ : St)] = L at *
    go_wp2
    go_loopw [11] (fun i wr => ∃ k : Nat, k ≤ 4 ∧ i = .int .i64 k ∧ Below w4.heap.size w4 wr) (fun i _ => 4 - (intOf i).toNat)
    case atStart => exact ⟨0, by omega, rfl, Below.refl _ _⟩
    case round =>
      obtain ⟨ki, hki, rfl, hBi⟩ := hrel
      have HBi : Hid _ := hBi
      clear hBi
      by_cases hi4 : ki < 4
      · have hi4' : (ki : Int) < 4 := by omega
        obtain ⟨x, hx⟩ : ∃ x, x = L[ki]?.getD StMath.zero := ⟨_, rfl⟩
        have HXr : Hid (w4.rangeAt G (ki * 3) (stL x)) := by rw [hx]; exact lit_range HR4.out HL4.out hi4
        clear hx
        go_wp2
        go_loopw [12] (fun i wr => ∃ k : Nat, k ≤ 4 ∧ i = .int .i64 k ∧ Below w4.heap.size w4 wr) (fun i _ => 4 - (intOf i).toNat)
        case atStart => exact ⟨0, by omega, rfl, HBi.out⟩
        case round =>
          obtain ⟨kj, hkj, rfl, hBj⟩ := hrel
          have HBj : Hid _ := hBj
          clear hBj
          by_cases hj4 : kj < 4
          · have hj4' : (kj : Int) < 4 := by omega
            obtain ⟨y, hy⟩ : ∃ y, y = L[kj]?.getD StMath.zero := ⟨_, rfl⟩
            have HYr : Hid (w4.rangeAt G (kj * 3) (stL y)) := by rw [hy]; exact lit_range HR4.out HL4.out hj4
            clear hy
            rcases order_cases x y with ⟨q1, HQ2⟩ | ⟨q1, HQ2⟩ | ⟨q1, HQ2, HQ3⟩
            · have HL1 : Hid (∀ m : Grown1 wr, _) := fun m => stLess_any x y m.w
              rw [q1] at HL1
              unfold stV at HL1
              have hne : Nonempty (Grown1 wr) := ⟨⟨wr, Below.refl _ _⟩⟩
              obtain ⟨c0, c1, c2⟩ := range_cells (range_later HXr.out HBj.out)
              have c0' := fun m : Grown1 wr => grown1_cell c0 m
              have c1' := fun m : Grown1 wr => grown1_cell c1 m
              have c2' := fun m : Grown1 wr => grown1_cell c2 m
              clear c0 c1 c2
              obtain ⟨d0, d1, d2⟩ := range_cells (range_later HYr.out HBj.out)
              have d0' := fun m : Grown1 wr => grown1_cell d0 m
              have d1' := fun m : Grown1 wr => grown1_cell d1 m
              have d2' := fun m : Grown1 wr => grown1_cell d2 m
              clear d0 d1 d2
              go_wp2_with fail
              (try simp only [Act.put])
              refine wp_region_grow (by kernel_rfl) (by kernel_rfl) ?_
              repeat (go_big_quiet_step (first | with_reducible exact grown1_call _ (HL1.out _)))
              refine wpQuiet_nil ?_
              intro _ hw'
              obtain ⟨n1, hw''⟩ := hw'
              subst hw''
              have HB5 : Hid (Below w4.heap.size w4 n1.w) := HBj.out.trans (n1.below.mono HBj.out.size)
              generalize n1.w = w5 at *
              clear c0' c1' c2' d0' d1' d2' hne n1 HL1
              have HL1 : Hid (∀ m : Grown1 w5, _) := fun m => refLess_any x y m.w
              rw [q1] at HL1
              have HL2 : Hid (∀ m : Grown1 w5, _) := fun m => stLess_any y x m.w
              rw [HQ2.out] at HL2
              unfold stV at HL1 HL2
              have hne : Nonempty (Grown1 w5) := ⟨⟨w5, Below.refl _ _⟩⟩
              obtain ⟨c0, c1, c2⟩ := range_cells (range_later HXr.out HB5.out)
              have c0' := fun m : Grown1 w5 => grown1_cell c0 m
              have c1' := fun m : Grown1 w5 => grown1_cell c1 m
              have c2' := fun m : Grown1 w5 => grown1_cell c2 m
              clear c0 c1 c2
              obtain ⟨d0, d1, d2⟩ := range_cells (range_later HYr.out HB5.out)
              have d0' := fun m : Grown1 w5 => grown1_cell d0 m
              have d1' := fun m : Grown1 w5 => grown1_cell d1 m
              have d2' := fun m : Grown1 w5 => grown1_cell d2 m
              clear d0 d1 d2
              go_wp2_with fail
              (try simp only [Act.put])
              refine wp_region_grow (by kernel_rfl) (by kernel_rfl) ?_
              repeat (go_big_quiet_step (first | with_reducible exact grown1_call _ (HL1.out _) | with_reducible exact grown1_call _ (HL2.out _)))
              refine wpQuiet_nil ?_
              intro _ hw'
              obtain ⟨n1, hw''⟩ := hw'
              subst hw''
              have HB6 : Hid (Below w4.heap.size w4 n1.w) := HB5.out.trans (n1.below.mono HB5.out.size)
              generalize n1.w = w6 at *
              clear c0' c1' c2' d0' d1' d2' hne n1 HL1 HL2
              have HQ1 : Hid _ := q1
              clear q1
              go_wp2
              go_loopw [14] (fun i wr => ∃ k : Nat, k ≤ 4 ∧ i = .int .i64 k ∧ Below w4.heap.size w4 wr) (fun i _ => 4 - (intOf i).toNat)
              case atStart => exact ⟨0, by omega, rfl, HB6.out⟩
              case round =>
                obtain ⟨km, hkm, rfl, hBm⟩ := hrel
                have HBm : Hid _ := hBm
                clear hBm
                by_cases hm4 : km < 4
                · have hm4' : (km : Int) < 4 := by omega
                  obtain ⟨z, hz⟩ : ∃ z, z = L[km]?.getD StMath.zero := ⟨_, rfl⟩
                  have HZr : Hid (w4.rangeAt G (km * 3) (stL z)) := by rw [hz]; exact lit_range HR4.out HL4.out hm4
                  clear hz
                  have HT : Hid (StMath.less y z = true → StMath.less x z = true) := fun h => StMath.less_trans HQ1.out h
                  have HL1 : Hid (∀ m : Grown1 wr, _) := fun m => stLess_any y z m.w
                  have HL2 : Hid (∀ m : Grown1 wr, _) := fun m => stLess_any x z m.w
                  unfold stV at HL1 HL2
                  have hne : Nonempty (Grown1 wr) := ⟨⟨wr, Below.refl _ _⟩⟩
                  obtain ⟨c0, c1, c2⟩ := range_cells (range_later HXr.out HBm.out)
                  have c0' := fun m : Grown1 wr => grown1_cell c0 m
                  have c1' := fun m : Grown1 wr => grown1_cell c1 m
                  have c2' := fun m : Grown1 wr => grown1_cell c2 m
                  clear c0 c1 c2
                  obtain ⟨d0, d1, d2⟩ := range_cells (range_later HYr.out HBm.out)
                  have d0' := fun m : Grown1 wr => grown1_cell d0 m
                  have d1' := fun m : Grown1 wr => grown1_cell d1 m
                  have d2' := fun m : Grown1 wr => grown1_cell d2 m
                  clear d0 d1 d2
                  obtain ⟨e0, e1, e2⟩ := range_cells (range_later HZr.out HBm.out)
                  have e0' := fun m : Grown1 wr => grown1_cell e0 m
                  have e1' := fun m : Grown1 wr => grown1_cell e1 m
                  have e2' := fun m : Grown1 wr => grown1_cell e2 m
                  clear e0 e1 e2
                  cases q3 : StMath.less y z with
                  | true =>
                    rw [q3] at HL1
                    rw [HT.out q3] at HL2
                    clear q3
                    go_wp2_with fail
                    (try simp only [Act.put])
                    refine wp_region_grow (by kernel_rfl) (by kernel_rfl) ?_
                    repeat (go_big_quiet_step (first | with_reducible exact grown1_call _ (HL1.out _) | with_reducible exact grown1_call _ (HL2.out _)))
                    refine wpQuiet_nil ?_
                    intro _ hw'
                    obtain ⟨n1, hw''⟩ := hw'
                    subst hw''
                    have HB7 : Hid (Below w4.heap.size w4 n1.w) := HBm.out.trans (n1.below.mono HBm.out.size)
                    generalize n1.w = w7 at *
                    clear c0' c1' c2' d0' d1' d2' e0' e1' e2' hne n1 HL1 HL2
                    go_wp2
                    go_roundw
                    case rel => exact ⟨km + 1, by omega, by go_num, HB7.out⟩
                    case measure => simp [intOf]; omega
                  | false =>
                    rw [q3] at HL1
                    clear q3
                    go_wp2_with fail
                    (try simp only [Act.put])
                    refine wp_region_grow (by kernel_rfl) (by kernel_rfl) ?_
                    repeat (go_big_quiet_step (first | with_reducible exact grown1_call _ (HL1.out _)))
                    refine wpQuiet_nil ?_
                    intro _ hw'
                    obtain ⟨n1, hw''⟩ := hw'
                    subst hw''
                    have HB7 : Hid (Below w4.heap.size w4 n1.w) := HBm.out.trans (n1.below.mono HBm.out.size)
                    generalize n1.w = w7 at *
                    clear c0' c1' c2' d0' d1' d2' e0' e1' e2' hne n1 HL1 HL2
                    go_wp2
                    go_roundw
                    case rel => exact ⟨km + 1, by omega, by go_num, HB7.out⟩
                    case measure => simp [intOf]; omega
                · obtain rfl : km = 4 := by omega
                  go_wp2
                  go_roundw
                  case rel => exact ⟨kj + 1, by omega, by go_num, HBm.out⟩
                  case measure => simp [intOf]; omega
            · have HL1 : Hid (∀ m : Grown1 wr, _) := fun m => stLess_any x y m.w
              rw [q1] at HL1
              unfold stV at HL1
              have hne : Nonempty (Grown1 wr) := ⟨⟨wr, Below.refl _ _⟩⟩
              obtain ⟨c0, c1, c2⟩ := range_cells (range_later HXr.out HBj.out)
              have c0' := fun m : Grown1 wr => grown1_cell c0 m
              have c1' := fun m : Grown1 wr => grown1_cell c1 m
              have c2' := fun m : Grown1 wr => grown1_cell c2 m
              clear c0 c1 c2
              obtain ⟨d0, d1, d2⟩ := range_cells (range_later HYr.out HBj.out)
              have d0' := fun m : Grown1 wr => grown1_cell d0 m
              have d1' := fun m : Grown1 wr => grown1_cell d1 m
              have d2' := fun m : Grown1 wr => grown1_cell d2 m
              clear d0 d1 d2
              go_wp2_with fail
              (try simp only [Act.put])
              refine wp_region_grow (by kernel_rfl) (by kernel_rfl) ?_
              repeat (go_big_quiet_step (first | with_reducible exact grown1_call _ (HL1.out _)))
              refine wpQuiet_nil ?_
              intro _ hw'
              obtain ⟨n1, hw''⟩ := hw'
              subst hw''
              have HB5 : Hid (Below w4.heap.size w4 n1.w) := HBj.out.trans (n1.below.mono HBj.out.size)
              generalize n1.w = w5 at *
              clear c0' c1' c2' d0' d1' d2' hne n1 HL1
              have HL1 : Hid (∀ m : Grown1 w5, _) := fun m => refLess_any x y m.w
              rw [q1] at HL1
              have HL2 : Hid (∀ m : Grown1 w5, _) := fun m => stLess_any y x m.w
              rw [HQ2.out] at HL2
              unfold stV at HL1 HL2
              have hne : Nonempty (Grown1 w5) := ⟨⟨w5, Below.refl _ _⟩⟩
              obtain ⟨c0, c1, c2⟩ := range_cells (range_later HXr.out HB5.out)
              have c0' := fun m : Grown1 w5 => grown1_cell c0 m
              have c1' := fun m : Grown1 w5 => grown1_cell c1 m
              have c2' := fun m : Grown1 w5 => grown1_cell c2 m
              clear c0 c1 c2
              obtain ⟨d0, d1, d2⟩ := range_cells (range_later HYr.out HB5.out)
              have d0' := fun m : Grown1 w5 => grown1_cell d0 m
              have d1' := fun m : Grown1 w5 => grown1_cell d1 m
              have d2' := fun m : Grown1 w5 => grown1_cell d2 m
              clear d0 d1 d2
              go_wp2_with fail
              (try simp only [Act.put])
              refine wp_region_grow (by kernel_rfl) (by kernel_rfl) ?_
              repeat (go_big_quiet_step (first | with_reducible exact grown1_call _ (HL1.out _) | with_reducible exact grown1_call _ (HL2.out _)))
              refine wpQuiet_nil ?_
              intro _ hw'
              obtain ⟨n1, hw''⟩ := hw'
              subst hw''
              have HB6 : Hid (Below w4.heap.size w4 n1.w) := HB5.out.trans (n1.below.mono HB5.out.size)
              generalize n1.w = w6 at *
              clear c0' c1' c2' d0' d1' d2' hne n1 HL1 HL2
              go_wp2
              refine wp_loop_rounds 1 ?_
              rw [rounds_succ]
              go_wp2
              go_roundw
              case rel => exact ⟨kj + 1, by omega, by go_num, HB6.out⟩
              case measure => simp [intOf]; omega
            · have HL1 : Hid (∀ m : Grown1 wr, _) := fun m => stLess_any x y m.w
              rw [q1] at HL1
              unfold stV at HL1
              have hxy := HQ3.out
              subst hxy
              have hne : Nonempty (Grown1 wr) := ⟨⟨wr, Below.refl _ _⟩⟩
              obtain ⟨c0, c1, c2⟩ := range_cells (range_later HXr.out HBj.out)
              have c0' := fun m : Grown1 wr => grown1_cell c0 m
              have c1' := fun m : Grown1 wr => grown1_cell c1 m
              have c2' := fun m : Grown1 wr => grown1_cell c2 m
              clear c0 c1 c2
              obtain ⟨d0, d1, d2⟩ := range_cells (range_later HYr.out HBj.out)
              have d0' := fun m : Grown1 wr => grown1_cell d0 m
              have d1' := fun m : Grown1 wr => grown1_cell d1 m
              have d2' := fun m : Grown1 wr => grown1_cell d2 m
              clear d0 d1 d2
              go_wp2_with fail
              (try simp only [Act.put])
              refine wp_region_grow (by kernel_rfl) (by kernel_rfl) ?_
              repeat (go_big_quiet_step (first | with_reducible exact grown1_call _ (HL1.out _)))
              refine wpQuiet_nil ?_
              intro _ hw'
              obtain ⟨n1, hw''⟩ := hw'
              subst hw''
              have HB5 : Hid (Below w4.heap.size w4 n1.w) := HBj.out.trans (n1.below.mono HBj.out.size)
              generalize n1.w = w5 at *
              clear c0' c1' c2' d0' d1' d2' hne n1 HL1
              have HL1 : Hid (∀ m : Grown1 w5, _) := fun m => refLess_any x x m.w
              rw [q1] at HL1
              have HL2 : Hid (∀ m : Grown1 w5, _) := fun m => stLess_any x x m.w
              rw [HQ2.out] at HL2
              unfold stV at HL1 HL2
              have hne : Nonempty (Grown1 w5) := ⟨⟨w5, Below.refl _ _⟩⟩
              obtain ⟨c0, c1, c2⟩ := range_cells (range_later HXr.out HB5.out)
              have c0' := fun m : Grown1 w5 => grown1_cell c0 m
              have c1' := fun m : Grown1 w5 => grown1_cell c1 m
              have c2' := fun m : Grown1 w5 => grown1_cell c2 m
              clear c0 c1 c2
              obtain ⟨d0, d1, d2⟩ := range_cells (range_later HYr.out HB5.out)
              have d0' := fun m : Grown1 w5 => grown1_cell d0 m
              have d1' := fun m : Grown1 w5 => grown1_cell d1 m
              have d2' := fun m : Grown1 w5 => grown1_cell d2 m
              clear d0 d1 d2
              go_wp2_with fail
              (try simp only [Act.put])
              refine wp_region_grow (by kernel_rfl) (by kernel_rfl) ?_
              repeat (go_big_quiet_step (first | with_reducible exact grown1_call _ (HL1.out _) | with_reducible exact grown1_call _ (HL2.out _)))
              refine wpQuiet_nil ?_
              intro _ hw'
              obtain ⟨n1, hw''⟩ := hw'
              subst hw''
              have HB6 : Hid (Below w4.heap.size w4 n1.w) := HB5.out.trans (n1.below.mono HB5.out.size)
              generalize n1.w = w6 at *
              clear c0' c1' c2' d0' d1' d2' hne n1 HL1 HL2
              go_wp2
              refine wp_loop_rounds 1 ?_
              rw [rounds_succ]
              go_wp2
              go_roundw
              case rel => exact ⟨kj + 1, by omega, by go_num, HB6.out⟩
              case measure => simp [intOf]; omega
          · obtain rfl : kj = 4 := by omega
            go_wp2
            go_roundw
            case rel => exact ⟨ki + 1, by omega, by go_num, HBj.out⟩
            case measure => simp [intOf]; omega
      · obtain rfl : ki = 4 := by omega
        go_wp2
        go_ret
        exact ⟨rfl, HW4.out.trans (HBi.out.mono HW4.out.size)⟩
  · go_upto_region 10 with fail
    have HXd : Hid (StAt (w2.setCell ⟨gd, 1, none⟩ (.int .i64 b.l)) gd ⟨a.p, b.l, a.r⟩) := ⟨Arr.set HXa.out.arr 1 _⟩
    have HAd : Hid (StAt (w2.setCell ⟨gd, 1, none⟩ (.int .i64 b.l)) W.heap.size a) := ⟨Arr.set_other HAa.out.arr _ (by simp; omega) _⟩
    have HBd : Hid (StAt (w2.setCell ⟨gd, 1, none⟩ (.int .i64 b.l)) (W.heap.size + 1) b) := ⟨Arr.set_other HBa.out.arr _ (by simp; omega) _⟩
    have HCd : Hid (StAt (w2.setCell ⟨gd, 1, none⟩ (.int .i64 b.l)) (W.heap.size + 1 + 1) c) := ⟨Arr.set_other HCa.out.arr _ (by simp; omega) _⟩
    have HWd : Hid (Below W.heap.size W (w2.setCell ⟨gd, 1, none⟩ (.int .i64 b.l))) := HWa.out.setCell (by show W.heap.size ≤ gd; omega) _
    clear c0 c1 c2 d0 d1 d2 hfz HAa HBa HCa HWa HXa
    generalize (w2.setCell ⟨gd, 1, none⟩ (.int .i64 b.l)) = w3 at *
    obtain ⟨c0, c1, c2⟩ := HAd.out.cells
    obtain ⟨d0, d1, d2⟩ := HBd.out.cells
    obtain ⟨e0, e1, e2⟩ := HCd.out.cells
    obtain ⟨f0, f1, f2⟩ := HXd.out.cells
    dsimp only at f0 f1 f2
    go_upto_region 11 with fail
    have HR4 : Hid (SRow (w3.alloc (.cells #[.int .i64 a.p, .int .i64 a.l, .int .i64 a.r, .int .i64 b.p, .int .i64 b.l, .int .i64 b.r, .int .i64 c.p, .int .i64 c.l, .int .i64 c.r, .int .i64 a.p, .int .i64 b.l, .int .i64 a.r] 23)) (some ⟨w3.heap.size, 0, none⟩) [a, b, c, ⟨a.p, b.l, a.r⟩]) := arr_srow (Arr.new w3 23 ([a, b, c, ⟨a.p, b.l, a.r⟩].flatMap stL) rfl)
    have HW4 : Hid (Below W.heap.size W (w3.alloc (.cells #[.int .i64 a.p, .int .i64 a.l, .int .i64 a.r, .int .i64 b.p, .int .i64 b.l, .int .i64 b.r, .int .i64 c.p, .int .i64 c.l, .int .i64 c.r, .int .i64 a.p, .int .i64 b.l, .int .i64 a.r] 23))) := HWd.out.alloc HWd.out.size _
    have HL4 : Hid ([a, b, c, (⟨a.p, b.l, a.r⟩ : St)].length = 4) := rfl
    clear c0 c1 c2 d0 d1 d2 e0 e1 e2 f0 f1 f2 HAd HBd HCd HXd HWd
    generalize w3.alloc (.cells #[.int .i64 a.p, .int .i64 a.l, .int .i64 a.r, .int .i64 b.p, .int .i64 b.l, .int .i64 b.r, .int .i64 c.p, .int .i64 c.l, .int .i64 c.r, .int .i64 a.p, .int .i64 b.l, .int .i64 a.r] 23) = w4 at *
    generalize w3.heap.size = G at *
    generalize [a, b, c, (⟨a.p, b.l, a.r⟩ : St)] = L at *
    go_wp2
    go_loopw [11] (fun i wr => ∃ k : Nat, k ≤ 4 ∧ i = .int .i64 k ∧ Below w4.heap.size w4 wr) (fun i _ => 4 - (intOf i).toNat)
    case atStart => exact ⟨0, by omega, rfl, Below.refl _ _⟩
    case round =>
      obtain ⟨ki, hki, rfl, hBi⟩ := hrel
      have HBi : Hid _ := hBi
      clear hBi
      by_cases hi4 : ki < 4
      · have hi4' : (ki : Int) < 4 := by omega
        obtain ⟨x, hx⟩ : ∃ x, x = L[ki]?.getD StMath.zero := ⟨_, rfl⟩
        have HXr : Hid (w4.rangeAt G (ki * 3) (stL x)) := by rw [hx]; exact lit_range HR4.out HL4.out hi4
        clear hx
        go_wp2
        go_loopw [12] (fun i wr => ∃ k : Nat, k ≤ 4 ∧ i = .int .i64 k ∧ Below w4.heap.size w4 wr) (fun i _ => 4 - (intOf i).toNat)
        case atStart => exact ⟨0, by omega, rfl, HBi.out⟩
        case round =>
          obtain ⟨kj, hkj, rfl, hBj⟩ := hrel
          have HBj : Hid _ := hBj
          clear hBj
          by_cases hj4 : kj < 4
          · have hj4' : (kj : Int) < 4 := by omega
            obtain ⟨y, hy⟩ : ∃ y, y = L[kj]?.getD StMath.zero := ⟨_, rfl⟩
            have HYr : Hid (w4.rangeAt G (kj * 3) (stL y)) := by rw [hy]; exact lit_range HR4.out HL4.out hj4
            clear hy
            rcases order_cases x y with ⟨q1, HQ2⟩ | ⟨q1, HQ2⟩ | ⟨q1, HQ2, HQ3⟩
            · have HL1 : Hid (∀ m : Grown1 wr, _) := fun m => stLess_any x y m.w
              rw [q1] at HL1
              unfold stV at HL1
              have hne : Nonempty (Grown1 wr) := ⟨⟨wr, Below.refl _ _⟩⟩
              obtain ⟨c0, c1, c2⟩ := range_cells (range_later HXr.out HBj.out)
              have c0' := fun m : Grown1 wr => grown1_cell c0 m
              have c1' := fun m : Grown1 wr => grown1_cell c1 m
              have c2' := fun m : Grown1 wr => grown1_cell c2 m
              clear c0 c1 c2
              obtain ⟨d0, d1, d2⟩ := range_cells (range_later HYr.out HBj.out)
              have d0' := fun m : Grown1 wr => grown1_cell d0 m
              have d1' := fun m : Grown1 wr => grown1_cell d1 m
              have d2' := fun m : Grown1 wr => grown1_cell d2 m
              clear d0 d1 d2
              go_wp2_with fail
              (try simp only [Act.put])
              refine wp_region_grow (by kernel_rfl) (by kernel_rfl) ?_
              repeat (go_big_quiet_step (first | with_reducible exact grown1_call _ (HL1.out _)))
              refine wpQuiet_nil ?_
              intro _ hw'
              obtain ⟨n1, hw''⟩ := hw'
              subst hw''
              have HB5 : Hid (Below w4.heap.size w4 n1.w) := HBj.out.trans (n1.below.mono HBj.out.size)
              generalize n1.w = w5 at *
              clear c0' c1' c2' d0' d1' d2' hne n1 HL1
              have HL1 : Hid (∀ m : Grown1 w5, _) := fun m => refLess_any x y m.w
              rw [q1] at HL1
              have HL2 : Hid (∀ m : Grown1 w5, _) := fun m => stLess_any y x m.w
              rw [HQ2.out] at HL2
              unfold stV at HL1 HL2
              have hne : Nonempty (Grown1 w5) := ⟨⟨w5, Below.refl _ _⟩⟩
              obtain ⟨c0, c1, c2⟩ := range_cells (range_later HXr.out HB5.out)
              have c0' := fun m : Grown1 w5 => grown1_cell c0 m
              have c1' := fun m : Grown1 w5 => grown1_cell c1 m
              have c2' := fun m : Grown1 w5 => grown1_cell c2 m
              clear c0 c1 c2
              obtain ⟨d0, d1, d2⟩ := range_cells (range_later HYr.out HB5.out)
              have d0' := fun m : Grown1 w5 => grown1_cell d0 m
              have d1' := fun m : Grown1 w5 => grown1_cell d1 m
              have d2' := fun m : Grown1 w5 => grown1_cell d2 m
              clear d0 d1 d2
              go_wp2_with fail
              (try simp only [Act.put])
              refine wp_region_grow (by kernel_rfl) (by kernel_rfl) ?_
              repeat (go_big_quiet_step (first | with_reducible exact grown1_call _ (HL1.out _) | with_reducible exact grown1_call _ (HL2.out _)))
              refine wpQuiet_nil ?_
              intro _ hw'
              obtain ⟨n1, hw''⟩ := hw'
              subst hw''
              have HB6 : Hid (Below w4.heap.size w4 n1.w) := HB5.out.trans (n1.below.mono HB5.out.size)
              generalize n1.w = w6 at *
              clear c0' c1' c2' d0' d1' d2' hne n1 HL1 HL2
              have HQ1 : Hid _ := q1
              clear q1
              go_wp2
              go_loopw [14] (fun i wr => ∃ k : Nat, k ≤ 4 ∧ i = .int .i64 k ∧ Below w4.heap.size w4 wr) (fun i _ => 4 - (intOf i).toNat)
              case atStart => exact ⟨0, by omega, rfl, HB6.out⟩
              case round =>
                obtain ⟨km, hkm, rfl, hBm⟩ := hrel
                have HBm : Hid _ := hBm
                clear hBm
                by_cases hm4 : km < 4
                · have hm4' : (km : Int) < 4 := by omega
                  obtain ⟨z, hz⟩ : ∃ z, z = L[km]?.getD StMath.zero := ⟨_, rfl⟩
                  have HZr : Hid (w4.rangeAt G (km * 3) (stL z)) := by rw [hz]; exact lit_range HR4.out HL4.out hm4
                  clear hz
                  have HT : Hid (StMath.less y z = true → StMath.less x z = true) := fun h => StMath.less_trans HQ1.out h
                  have HL1 : Hid (∀ m : Grown1 wr, _) := fun m => stLess_any y z m.w
                  have HL2 : Hid (∀ m : Grown1 wr, _) := fun m => stLess_any x z m.w
                  unfold stV at HL1 HL2
                  have hne : Nonempty (Grown1 wr) := ⟨⟨wr, Below.refl _ _⟩⟩
                  obtain ⟨c0, c1, c2⟩ := range_cells (range_later HXr.out HBm.out)
                  have c0' := fun m : Grown1 wr => grown1_cell c0 m
                  have c1' := fun m : Grown1 wr => grown1_cell c1 m
                  have c2' := fun m : Grown1 wr => grown1_cell c2 m
                  clear c0 c1 c2
                  obtain ⟨d0, d1, d2⟩ := range_cells (range_later HYr.out HBm.out)
                  have d0' := fun m : Grown1 wr => grown1_cell d0 m
                  have d1' := fun m : Grown1 wr => grown1_cell d1 m
                  have d2' := fun m : Grown1 wr => grown1_cell d2 m
                  clear d0 d1 d2
                  obtain ⟨e0, e1, e2⟩ := range_cells (range_later HZr.out HBm.out)
                  have e0' := fun m : Grown1 wr => grown1_cell e0 m
                  have e1' := fun m : Grown1 wr => grown1_cell e1 m
                  have e2' := fun m : Grown1 wr => grown1_cell e2 m
                  clear e0 e1 e2
                  cases q3 : StMath.less y z with
                  | true =>
                    rw [q3] at HL1
                    rw [HT.out q3] at HL2
                    clear q3
                    go_wp2_with fail
                    (try simp only [Act.put])
                    refine wp_region_grow (by kernel_rfl) (by kernel_rfl) ?_
                    repeat (go_big_quiet_step (first | with_reducible exact grown1_call _ (HL1.out _) | with_reducible exact grown1_call _ (HL2.out _)))
                    refine wpQuiet_nil ?_
                    intro _ hw'
                    obtain ⟨n1, hw''⟩ := hw'
                    subst hw''
                    have HB7 : Hid (Below w4.heap.size w4 n1.w) := HBm.out.trans (n1.below.mono HBm.out.size)
                    generalize n1.w = w7 at *
                    clear c0' c1' c2' d0' d1' d2' e0' e1' e2' hne n1 HL1 HL2
                    go_wp2
                    go_roundw
                    case rel => exact ⟨km + 1, by omega, by go_num, HB7.out⟩
                    case measure => simp [intOf]; omega
                  | false =>
                    rw [q3] at HL1
                    clear q3
                    go_wp2_with fail
                    (try simp only [Act.put])
                    refine wp_region_grow (by kernel_rfl) (by kernel_rfl) ?_
                    repeat (go_big_quiet_step (first | with_reducible exact grown1_call _ (HL1.out _)))
                    refine wpQuiet_nil ?_
                    intro _ hw'
                    obtain ⟨n1, hw''⟩ := hw'
                    subst hw''
                    have HB7 : Hid (Below w4.heap.size w4 n1.w) := HBm.out.trans (n1.below.mono HBm.out.size)
                    generalize n1.w = w7 at *
                    clear c0' c1' c2' d0' d1' d2' e0' e1' e2' hne n1 HL1 HL2
                    go_wp2
                    go_roundw
                    case rel => exact ⟨km + 1, by omega, by go_num, HB7.out⟩
                    case measure => simp [intOf]; omega
                · obtain rfl : km = 4 := by omega
                  go_wp2
                  go_roundw
                  case rel => exact ⟨kj + 1, by omega, by go_num, HBm.out⟩
                  case measure => simp [intOf]; omega
            · have HL1 : Hid (∀ m : Grown1 wr, _) := fun m => stLess_any x y m.w
              rw [q1] at HL1
              unfold stV at HL1
              have hne : Nonempty (Grown1 wr) := ⟨⟨wr, Below.refl _ _⟩⟩
              obtain ⟨c0, c1, c2⟩ := range_cells (range_later HXr.out HBj.out)
              have c0' := fun m : Grown1 wr => grown1_cell c0 m
              have c1' := fun m : Grown1 wr => grown1_cell c1 m
              have c2' := fun m : Grown1 wr => grown1_cell c2 m
              clear c0 c1 c2
              obtain ⟨d0, d1, d2⟩ := range_cells (range_later HYr.out HBj.out)
              have d0' := fun m : Grown1 wr => grown1_cell d0 m
              have d1' := fun m : Grown1 wr => grown1_cell d1 m
              have d2' := fun m : Grown1 wr => grown1_cell d2 m
              clear d0 d1 d2
              go_wp2_with fail
              (try simp only [Act.put])
              refine wp_region_grow (by kernel_rfl) (by kernel_rfl) ?_
              repeat (go_big_quiet_step (first | with_reducible exact grown1_call _ (HL1.out _)))
              refine wpQuiet_nil ?_
              intro _ hw'
              obtain ⟨n1, hw''⟩ := hw'
              subst hw''
              have HB5 : Hid (Below w4.heap.size w4 n1.w) := HBj.out.trans (n1.below.mono HBj.out.size)
              generalize n1.w = w5 at *
              clear c0' c1' c2' d0' d1' d2' hne n1 HL1
              have HL1 : Hid (∀ m : Grown1 w5, _) := fun m => refLess_any x y m.w
              rw [q1] at HL1
              have HL2 : Hid (∀ m : Grown1 w5, _) := fun m => stLess_any y x m.w
              rw [HQ2.out] at HL2
              unfold stV at HL1 HL2
              have hne : Nonempty (Grown1 w5) := ⟨⟨w5, Below.refl _ _⟩⟩
              obtain ⟨c0, c1, c2⟩ := range_cells (range_later HXr.out HB5.out)
              have c0' := fun m : Grown1 w5 => grown1_cell c0 m
              have c1' := fun m : Grown1 w5 => grown1_cell c1 m
              have c2' := fun m : Grown1 w5 => grown1_cell c2 m
              clear c0 c1 c2
              obtain ⟨d0, d1, d2⟩ := range_cells (range_later HYr.out HB5.out)
              have d0' := fun m : Grown1 w5 => grown1_cell d0 m
              have d1' := fun m : Grown1 w5 => grown1_cell d1 m
              have d2' := fun m : Grown1 w5 => grown1_cell d2 m
              clear d0 d1 d2
              go_wp2_with fail
              (try simp only [Act.put])
              refine wp_region_grow (by kernel_rfl) (by kernel_rfl) ?_
              repeat (go_big_quiet_step (first | with_reducible exact grown1_call _ (HL1.out _) | with_reducible exact grown1_call _ (HL2.out _)))
              refine wpQuiet_nil ?_
              intro _ hw'
              obtain ⟨n1, hw''⟩ := hw'
              subst hw''
              have HB6 : Hid (Below w4.heap.size w4 n1.w) := HB5.out.trans (n1.below.mono HB5.out.size)
              generalize n1.w = w6 at *
              clear c0' c1' c2' d0' d1' d2' hne n1 HL1 HL2
              go_wp2
              refine wp_loop_rounds 1 ?_
              rw [rounds_succ]
              go_wp2
              go_roundw
              case rel => exact ⟨kj + 1, by omega, by go_num, HB6.out⟩
              case measure => simp [intOf]; omega
            · have HL1 : Hid (∀ m : Grown1 wr, _) := fun m => stLess_any x y m.w
              rw [q1] at HL1
              unfold stV at HL1
              have hxy := HQ3.out
              subst hxy
              have hne : Nonempty (Grown1 wr) := ⟨⟨wr, Below.refl _ _⟩⟩
              obtain ⟨c0, c1, c2⟩ := range_cells (range_later HXr.out HBj.out)
              have c0' := fun m : Grown1 wr => grown1_cell c0 m
              have c1' := fun m : Grown1 wr => grown1_cell c1 m
              have c2' := fun m : Grown1 wr => grown1_cell c2 m
              clear c0 c1 c2
              obtain ⟨d0, d1, d2⟩ := range_cells (range_later HYr.out HBj.out)
              have d0' := fun m : Grown1 wr => grown1_cell d0 m
              have d1' := fun m : Grown1 wr => grown1_cell d1 m
              have d2' := fun m : Grown1 wr => grown1_cell d2 m
              clear d0 d1 d2
              go_wp2_with fail
              (try simp only [Act.put])
              refine wp_region_grow (by kernel_rfl) (by kernel_rfl) ?_
              repeat (go_big_quiet_step (first | with_reducible exact grown1_call _ (HL1.out _)))
              refine wpQuiet_nil ?_
              intro _ hw'
              obtain ⟨n1, hw''⟩ := hw'
              subst hw''
              have HB5 : Hid (Below w4.heap.size w4 n1.w) := HBj.out.trans (n1.below.mono HBj.out.size)
              generalize n1.w = w5 at *
              clear c0' c1' c2' d0' d1' d2' hne n1 HL1
              have HL1 : Hid (∀ m : Grown1 w5, _) := fun m => refLess_any x x m.w
              rw [q1] at HL1
              have HL2 : Hid (∀ m : Grown1 w5, _) := fun m => stLess_any x x m.w
              rw [HQ2.out] at HL2
              unfold stV at HL1 HL2
              have hne : Nonempty (Grown1 w5) := ⟨⟨w5, Below.refl _ _⟩⟩
              obtain ⟨c0, c1, c2⟩ := range_cells (range_later HXr.out HB5.out)
              have c0' := fun m : Grown1 w5 => grown1_cell c0 m
              have c1' := fun m : Grown1 w5 => grown1_cell c1 m
              have c2' := fun m : Grown1 w5 => grown1_cell c2 m
              clear c0 c1 c2
              obtain ⟨d0, d1, d2⟩ := range_cells (range_later HYr.out HB5.out)
              have d0' := fun m : Grown1 w5 => grown1_cell d0 m
              have d1' := fun m : Grown1 w5 => grown1_cell d1 m
              have d2' := fun m : Grown1 w5 => grown1_cell d2 m
              clear d0 d1 d2
              go_wp2_with fail
              (try simp only [Act.put])
              refine wp_region_grow (by kernel_rfl) (by kernel_rfl) ?_
              repeat (go_big_quiet_step (first | with_reducible exact grown1_call _ (HL1.out _) | with_reducible exact grown1_call _ (HL2.out _)))
              refine wpQuiet_nil ?_
              intro _ hw'
              obtain ⟨n1, hw''⟩ := hw'
              subst hw''
              have HB6 : Hid (Below w4.heap.size w4 n1.w) := HB5.out.trans (n1.below.mono HB5.out.size)
              generalize n1.w = w6 at *
              clear c0' c1' c2' d0' d1' d2' hne n1 HL1 HL2
              go_wp2
              refine wp_loop_rounds 1 ?_
              rw [rounds_succ]
              go_wp2
              go_roundw
              case rel => exact ⟨kj + 1, by omega, by go_num, HB6.out⟩
              case measure => simp [intOf]; omega
          · obtain rfl : kj = 4 := by omega
            go_wp2
            go_roundw
            case rel => exact ⟨ki + 1, by omega, by go_num, HBj.out⟩
            case measure => simp [intOf]; omega
      · obtain rfl : ki = 4 := by omega
        go_wp2
        go_ret
        exact ⟨rfl, HW4.out.trans (HBi.out.mono HW4.out.size)⟩
  · go_upto_region 10 with fail
    have HXd : Hid (StAt (w2.setCell ⟨gd, 0, none⟩ (.int .i64 b.p)) gd ⟨b.p, a.l, a.r⟩) := ⟨Arr.set HXa.out.arr 0 _⟩
    have HAd : Hid (StAt (w2.setCell ⟨gd, 0, none⟩ (.int .i64 b.p)) W.heap.size a) := ⟨Arr.set_other HAa.out.arr _ (by simp; omega) _⟩
    have HBd : Hid (StAt (w2.setCell ⟨gd, 0, none⟩ (.int .i64 b.p)) (W.heap.size + 1) b) := ⟨Arr.set_other HBa.out.arr _ (by simp; omega) _⟩
    have HCd : Hid (StAt (w2.setCell ⟨gd, 0, none⟩ (.int .i64 b.p)) (W.heap.size + 1 + 1) c) := ⟨Arr.set_other HCa.out.arr _ (by simp; omega) _⟩
    have HWd : Hid (Below W.heap.size W (w2.setCell ⟨gd, 0, none⟩ (.int .i64 b.p))) := HWa.out.setCell (by show W.heap.size ≤ gd; omega) _
    clear c0 c1 c2 d0 d1 d2 hfz HAa HBa HCa HWa HXa
    generalize (w2.setCell ⟨gd, 0, none⟩ (.int .i64 b.p)) = w3 at *
    obtain ⟨c0, c1, c2⟩ := HAd.out.cells
    obtain ⟨d0, d1, d2⟩ := HBd.out.cells
    obtain ⟨e0, e1, e2⟩ := HCd.out.cells
    obtain ⟨f0, f1, f2⟩ := HXd.out.cells
    dsimp only at f0 f1 f2
    go_upto_region 11 with fail
    have HR4 : Hid (SRow (w3.alloc (.cells #[.int .i64 a.p, .int .i64 a.l, .int .i64 a.r, .int .i64 b.p, .int .i64 b.l, .int .i64 b.r, .int .i64 c.p, .int .i64 c.l, .int .i64 c.r, .int .i64 b.p, .int .i64 a.l, .int .i64 a.r] 23)) (some ⟨w3.heap.size, 0, none⟩) [a, b, c, ⟨b.p, a.l, a.r⟩]) := arr_srow (Arr.new w3 23 ([a, b, c, ⟨b.p, a.l, a.r⟩].flatMap stL) rfl)
    have HW4 : Hid (Below W.heap.size W (w3.alloc (.cells #[.int .i64 a.p, .int .i64 a.l, .int .i64 a.r, .int .i64 b.p, .int .i64 b.l, .int .i64 b.r, .int .i64 c.p, .int .i64 c.l, .int .i64 c.r, .int .i64 b.p, .int .i64 a.l, .int .i64 a.r] 23))) := HWd.out.alloc HWd.out.size _
    have HL4 : Hid ([a, b, c, (⟨b.p, a.l, a.r⟩ : St)].length = 4) := rfl
    clear c0 c1 c2 d0 d1 d2 e0 e1 e2 f0 f1 f2 HAd HBd HCd HXd HWd
    generalize w3.alloc (.cells #[.int .i64 a.p, .int .i64 a.l, .int .i64 a.r, .int .i64 b.p, .int .i64 b.l, .int .i64 b.r, .int .i64 c.p, .int .i64 c.l, .int .i64 c.r, .int .i64 b.p, .int .i64 a.l, .int .i64 a.r] 23) = w4 at *
    generalize w3.heap.size = G at *
    generalize [a, b, c, (⟨b.p, a.l, a.r⟩ : St)] = L at *
    go_wp2
    go_loopw [11] (fun i wr => ∃ k : Nat, k ≤ 4 ∧ i = .int .i64 k ∧ Below w4.heap.size w4 wr) (fun i _ => 4 - (intOf i).toNat)
    case atStart => exact ⟨0, by omega, rfl, Below.refl _ _⟩
    case round =>
      obtain ⟨ki, hki, rfl, hBi⟩ := hrel
      have HBi : Hid _ := hBi
      clear hBi
      by_cases hi4 : ki < 4
      · have hi4' : (ki : Int) < 4 := by omega
        obtain ⟨x, hx⟩ : ∃ x, x = L[ki]?.getD StMath.zero := ⟨_, rfl⟩
        have HXr : Hid (w4.rangeAt G (ki * 3) (stL x)) := by rw [hx]; exact lit_range HR4.out HL4.out hi4
        clear hx
        go_wp2
        go_loopw [12] (fun i wr => ∃ k : Nat, k ≤ 4 ∧ i = .int .i64 k ∧ Below w4.heap.size w4 wr) (fun i _ => 4 - (intOf i).toNat)
        case atStart => exact ⟨0, by omega, rfl, HBi.out⟩
        case round =>
          obtain ⟨kj, hkj, rfl, hBj⟩ := hrel
          have HBj : Hid _ := hBj
          clear hBj
          by_cases hj4 : kj < 4
          · have hj4' : (kj : Int) < 4 := by omega
            obtain ⟨y, hy⟩ : ∃ y, y = L[kj]?.getD StMath.zero := ⟨_, rfl⟩
            have HYr : Hid (w4.rangeAt G (kj * 3) (stL y)) := by rw [hy]; exact lit_range HR4.out HL4.out hj4
            clear hy
            rcases order_cases x y with ⟨q1, HQ2⟩ | ⟨q1, HQ2⟩ | ⟨q1, HQ2, HQ3⟩
            · have HL1 : Hid (∀ m : Grown1 wr, _) := fun m => stLess_any x y m.w
              rw [q1] at HL1
              unfold stV at HL1
              have hne : Nonempty (Grown1 wr) := ⟨⟨wr, Below.refl _ _⟩⟩
              obtain ⟨c0, c1, c2⟩ := range_cells (range_later HXr.out HBj.out)
              have c0' := fun m : Grown1 wr => grown1_cell c0 m
              have c1' := fun m : Grown1 wr => grown1_cell c1 m
              have c2' := fun m : Grown1 wr => grown1_cell c2 m
              clear c0 c1 c2
              obtain ⟨d0, d1, d2⟩ := range_cells (range_later HYr.out HBj.out)
              have d0' := fun m : Grown1 wr => grown1_cell d0 m
              have d1' := fun m : Grown1 wr => grown1_cell d1 m
              have d2' := fun m : Grown1 wr => grown1_cell d2 m
              clear d0 d1 d2
              go_wp2_with fail
              (try simp only [Act.put])
              refine wp_region_grow (by kernel_rfl) (by kernel_rfl) ?_
              repeat (go_big_quiet_step (first | with_reducible exact grown1_call _ (HL1.out _)))
              refine wpQuiet_nil ?_
              intro _ hw'
              obtain ⟨n1, hw''⟩ := hw'
              subst hw''
              have HB5 : Hid (Below w4.heap.size w4 n1.w) := HBj.out.trans (n1.below.mono HBj.out.size)
              generalize n1.w = w5 at *
              clear c0' c1' c2' d0' d1' d2' hne n1 HL1
              have HL1 : Hid (∀ m : Grown1 w5, _) := fun m => refLess_any x y m.w
              rw [q1] at HL1
              have HL2 : Hid (∀ m : Grown1 w5, _) := fun m => stLess_any y x m.w
              rw [HQ2.out] at HL2
              unfold stV at HL1 HL2
              have hne : Nonempty (Grown1 w5) := ⟨⟨w5, Below.refl _ _⟩⟩
              obtain ⟨c0, c1, c2⟩ := range_cells (range_later HXr.out HB5.out)
              have c0' := fun m : Grown1 w5 => grown1_cell c0 m
              have c1' := fun m : Grown1 w5 => grown1_cell c1 m
              have c2' := fun m : Grown1 w5 => grown1_cell c2 m
              clear c0 c1 c2
              obtain ⟨d0, d1, d2⟩ := range_cells (range_later HYr.out HB5.out)
              have d0' := fun m : Grown1 w5 => grown1_cell d0 m
              have d1' := fun m : Grown1 w5 => grown1_cell d1 m
              have d2' := fun m : Grown1 w5 => grown1_cell d2 m
              clear d0 d1 d2
              go_wp2_with fail
              (try simp only [Act.put])
              refine wp_region_grow (by kernel_rfl) (by kernel_rfl) ?_
              repeat (go_big_quiet_step (first | with_reducible exact grown1_call _ (HL1.out _) | with_reducible exact grown1_call _ (HL2.out _)))
              refine wpQuiet_nil ?_
              intro _ hw'
              obtain ⟨n1, hw''⟩ := hw'
              subst hw''
              have HB6 : Hid (Below w4.heap.size w4 n1.w) := HB5.out.trans (n1.below.mono HB5.out.size)
              generalize n1.w = w6 at *
              clear c0' c1' c2' d0' d1' d2' hne n1 HL1 HL2
              have HQ1 : Hid _ := q1
              clear q1
              go_wp2
              go_loopw [14] (fun i wr => ∃ k : Nat, k ≤ 4 ∧ i = .int .i64 k ∧ Below w4.heap.size w4 wr) (fun i _ => 4 - (intOf i).toNat)
              case atStart => exact ⟨0, by omega, rfl, HB6.out⟩
              case round =>
                obtain ⟨km, hkm, rfl, hBm⟩ := hrel
                have HBm : Hid _ := hBm
                clear hBm
                by_cases hm4 : km < 4
                · have hm4' : (km : Int) < 4 := by omega
                  obtain ⟨z, hz⟩ : ∃ z, z = L[km]?.getD StMath.zero := ⟨_, rfl⟩
                  have HZr : Hid (w4.rangeAt G (km * 3) (stL z)) := by rw [hz]; exact lit_range HR4.out HL4.out hm4
                  clear hz
                  have HT : Hid (StMath.less y z = true → StMath.less x z = true) := fun h => StMath.less_trans HQ1.out h
                  have HL1 : Hid (∀ m : Grown1 wr, _) := fun m => stLess_any y z m.w
                  have HL2 : Hid (∀ m : Grown1 wr, _) := fun m => stLess_any x z m.w
                  unfold stV at HL1 HL2
                  have hne : Nonempty (Grown1 wr) := ⟨⟨wr, Below.refl _ _⟩⟩
                  obtain ⟨c0, c1, c2⟩ := range_cells (range_later HXr.out HBm.out)
                  have c0' := fun m : Grown1 wr => grown1_cell c0 m
                  have c1' := fun m : Grown1 wr => grown1_cell c1 m
                  have c2' := fun m : Grown1 wr => grown1_cell c2 m
                  clear c0 c1 c2
                  obtain ⟨d0, d1, d2⟩ := range_cells (range_later HYr.out HBm.out)
                  have d0' := fun m : Grown1 wr => grown1_cell d0 m
                  have d1' := fun m : Grown1 wr => grown1_cell d1 m
                  have d2' := fun m : Grown1 wr => grown1_cell d2 m
                  clear d0 d1 d2
                  obtain ⟨e0, e1, e2⟩ := range_cells (range_later HZr.out HBm.out)
                  have e0' := fun m : Grown1 wr => grown1_cell e0 m
                  have e1' := fun m : Grown1 wr => grown1_cell e1 m
                  have e2' := fun m : Grown1 wr => grown1_cell e2 m
                  clear e0 e1 e2
                  cases q3 : StMath.less y z with
                  | true =>
                    rw [q3] at HL1
                    rw [HT.out q3] at HL2
                    clear q3
                    go_wp2_with fail
                    (try simp only [Act.put])
                    refine wp_region_grow (by kernel_rfl) (by kernel_rfl) ?_
                    repeat (go_big_quiet_step (first | with_reducible exact grown1_call _ (HL1.out _) | with_reducible exact grown1_call _ (HL2.out _)))
                    refine wpQuiet_nil ?_
                    intro _ hw'
                    obtain ⟨n1, hw''⟩ := hw'
                    subst hw''
                    have HB7 : Hid (Below w4.heap.size w4 n1.w) := HBm.out.trans (n1.below.mono HBm.out.size)
                    generalize n1.w = w7 at *
                    clear c0' c1' c2' d0' d1' d2' e0' e1' e2' hne n1 HL1 HL2
                    go_wp2
                    go_roundw
                    case rel => exact ⟨km + 1, by omega, by go_num, HB7.out⟩
                    case measure => simp [intOf]; omega
                  | false =>
                    rw [q3] at HL1
                    clear q3
                    go_wp2_with fail
                    (try simp only [Act.put])
                    refine wp_region_grow (by kernel_rfl) (by kernel_rfl) ?_
                    repeat (go_big_quiet_step (first | with_reducible exact grown1_call _ (HL1.out _)))
                    refine wpQuiet_nil ?_
                    intro _ hw'
                    obtain ⟨n1, hw''⟩ := hw'
                    subst hw''
                    have HB7 : Hid (Below w4.heap.size w4 n1.w) := HBm.out.trans (n1.below.mono HBm.out.size)
                    generalize n1.w = w7 at *
                    clear c0' c1' c2' d0' d1' d2' e0' e1' e2' hne n1 HL1 HL2
                    go_wp2
                    go_roundw
                    case rel => exact ⟨km + 1, by omega, by go_num, HB7.out⟩
                    case measure => simp [intOf]; omega
                · obtain rfl : km = 4 := by omega
                  go_wp2
                  go_roundw
                  case rel => exact ⟨kj + 1, by omega, by go_num, HBm.out⟩
                  case measure => simp [intOf]; omega
            · have HL1 : Hid (∀ m : Grown1 wr, _) := fun m => stLess_any x y m.w
              rw [q1] at HL1
              unfold stV at HL1
              have hne : Nonempty (Grown1 wr) := ⟨⟨wr, Below.refl _ _⟩⟩
              obtain ⟨c0, c1, c2⟩ := range_cells (range_later HXr.out HBj.out)
              have c0' := fun m : Grown1 wr => grown1_cell c0 m
              have c1' := fun m : Grown1 wr => grown1_cell c1 m
              have c2' := fun m : Grown1 wr => grown1_cell c2 m
              clear c0 c1 c2
              obtain ⟨d0, d1, d2⟩ := range_cells (range_later HYr.out HBj.out)
              have d0' := fun m : Grown1 wr => grown1_cell d0 m
              have d1' := fun m : Grown1 wr => grown1_cell d1 m
              have d2' := fun m : Grown1 wr => grown1_cell d2 m
              clear d0 d1 d2
              go_wp2_with fail
              (try simp only [Act.put])
              refine wp_region_grow (by kernel_rfl) (by kernel_rfl) ?_
              repeat (go_big_quiet_step (first | with_reducible exact grown1_call _ (HL1.out _)))
              refine wpQuiet_nil ?_
              intro _ hw'
              obtain ⟨n1, hw''⟩ := hw'
              subst hw''
              have HB5 : Hid (Below w4.heap.size w4 n1.w) := HBj.out.trans (n1.below.mono HBj.out.size)
              generalize n1.w = w5 at *
              clear c0' c1' c2' d0' d1' d2' hne n1 HL1
              have HL1 : Hid (∀ m : Grown1 w5, _) := fun m => refLess_any x y m.w
              rw [q1] at HL1
              have HL2 : Hid (∀ m : Grown1 w5, _) := fun m => stLess_any y x m.w
              rw [HQ2.out] at HL2
              unfold stV at HL1 HL2
              have hne : Nonempty (Grown1 w5) := ⟨⟨w5, Below.refl _ _⟩⟩
              obtain ⟨c0, c1, c2⟩ := range_cells (range_later HXr.out HB5.out)
              have c0' := fun m : Grown1 w5 => grown1_cell c0 m
              have c1' := fun m : Grown1 w5 => grown1_cell c1 m
              have c2' := fun m : Grown1 w5 => grown1_cell c2 m
              clear c0 c1 c2
              obtain ⟨d0, d1, d2⟩ := range_cells (range_later HYr.out HB5.out)
              have d0' := fun m : Grown1 w5 => grown1_cell d0 m
              have d1' := fun m : Grown1 w5 => grown1_cell d1 m
              have d2' := fun m : Grown1 w5 => grown1_cell d2 m
              clear d0 d1 d2
              go_wp2_with fail
              (try simp only [Act.put])
              refine wp_region_grow (by kernel_rfl) (by kernel_rfl) ?_
              repeat (go_big_quiet_step (first | with_reducible exact grown1_call _ (HL1.out _) | with_reducible exact grown1_call _ (HL2.out _)))
              refine wpQuiet_nil ?_
              intro _ hw'
              obtain ⟨n1, hw''⟩ := hw'
              subst hw''
              have HB6 : Hid (Below w4.heap.size w4 n1.w) := HB5.out.trans (n1.below.mono HB5.out.size)
              generalize n1.w = w6 at *
              clear c0' c1' c2' d0' d1' d2' hne n1 HL1 HL2
              go_wp2
              refine wp_loop_rounds 1 ?_
              rw [rounds_succ]
              go_wp2
              go_roundw
              case rel => exact ⟨kj + 1, by omega, by go_num, HB6.out⟩
              case measure => simp [intOf]; omega
            · have HL1 : Hid (∀ m : Grown1 wr, _) := fun m => stLess_any x y m.w
              rw [q1] at HL1
              unfold stV at HL1
              have hxy := HQ3.out
              subst hxy
              have hne : Nonempty (Grown1 wr) := ⟨⟨wr, Below.refl _ _⟩⟩
              obtain ⟨c0, c1, c2⟩ := range_cells (range_later HXr.out HBj.out)
              have c0' := fun m : Grown1 wr => grown1_cell c0 m
              have c1' := fun m : Grown1 wr => grown1_cell c1 m
              have c2' := fun m : Grown1 wr => grown1_cell c2 m
              clear c0 c1 c2
              obtain ⟨d0, d1, d2⟩ := range_cells (range_later HYr.out HBj.out)
              have d0' := fun m : Grown1 wr => grown1_cell d0 m
              have d1' := fun m : Grown1 wr => grown1_cell d1 m
              have d2' := fun m : Grown1 wr => grown1_cell d2 m
              clear d0 d1 d2
              go_wp2_with fail
              (try simp only [Act.put])
              refine wp_region_grow (by kernel_rfl) (by kernel_rfl) ?_
              repeat (go_big_quiet_step (first | with_reducible exact grown1_call _ (HL1.out _)))
              refine wpQuiet_nil ?_
              intro _ hw'
              obtain ⟨n1, hw''⟩ := hw'
              subst hw''
              have HB5 : Hid (Below w4.heap.size w4 n1.w) := HBj.out.trans (n1.below.mono HBj.out.size)
              generalize n1.w = w5 at *
              clear c0' c1' c2' d0' d1' d2' hne n1 HL1
              have HL1 : Hid (∀ m : Grown1 w5, _) := fun m => refLess_any x x m.w
              rw [q1] at HL1
              have HL2 : Hid (∀ m : Grown1 w5, _) := fun m => stLess_any x x m.w
              rw [HQ2.out] at HL2
              unfold stV at HL1 HL2
              have hne : Nonempty (Grown1 w5) := ⟨⟨w5, Below.refl _ _⟩⟩
              obtain ⟨c0, c1, c2⟩ := range_cells (range_later HXr.out HB5.out)
              have c0' := fun m : Grown1 w5 => grown1_cell c0 m
              have c1' := fun m : Grown1 w5 => grown1_cell c1 m
              have c2' := fun m : Grown1 w5 => grown1_cell c2 m
              clear c0 c1 c2
              obtain ⟨d0, d1, d2⟩ := range_cells (range_later HYr.out HB5.out)
              have d0' := fun m : Grown1 w5 => grown1_cell d0 m
              have d1' := fun m : Grown1 w5 => grown1_cell d1 m
              have d2' := fun m : Grown1 w5 => grown1_cell d2 m
              clear d0 d1 d2
              go_wp2_with fail
              (try simp only [Act.put])
              refine wp_region_grow (by kernel_rfl) (by kernel_rfl) ?_
              repeat (go_big_quiet_step (first | with_reducible exact grown1_call _ (HL1.out _) | with_reducible exact grown1_call _ (HL2.out _)))
              refine wpQuiet_nil ?_
              intro _ hw'
              obtain ⟨n1, hw''⟩ := hw'
              subst hw''
              have HB6 : Hid (Below w4.heap.size w4 n1.w) := HB5.out.trans (n1.below.mono HB5.out.size)
              generalize n1.w = w6 at *
              clear c0' c1' c2' d0' d1' d2' hne n1 HL1 HL2
              go_wp2
              refine wp_loop_rounds 1 ?_
              rw [rounds_succ]
              go_wp2
              go_roundw
              case rel => exact ⟨kj + 1, by omega, by go_num, HB6.out⟩
              case measure => simp [intOf]; omega
          · obtain rfl : kj = 4 := by omega
            go_wp2
            go_roundw
            case rel => exact ⟨ki + 1, by omega, by go_num, HBj.out⟩
            case measure => simp [intOf]; omega
      · obtain rfl : ki = 4 := by omega
        go_wp2
        go_ret
        exact ⟨rfl, HW4.out.trans (HBi.out.mono HW4.out.size)⟩
end Go.Proofs.Ytcgnkembfpcnnaa
