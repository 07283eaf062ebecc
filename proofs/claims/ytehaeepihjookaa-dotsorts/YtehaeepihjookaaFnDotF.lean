/-
  Walk of newsreelref1.DotAll.
-/
import Derived.Test.YtehaeepihjookaaFnDotE
namespace Go.Proofs.Ytehaeepihjookaa
open Go.RowKit NumMath
open DotMath (Dt)
set_option maxRecDepth 100000
set_option linter.unusedVariables false
set_option linter.unusedSimpArgs false

theorem row_from {w : World} {b off : Nat} {zs : List Int} (h : Row .u8 w (some ⟨b, off, none⟩) zs) (p cap : Nat) (hp : p ≤ zs.length) (hc : zs.length ≤ cap) : Row .u8 w (if cap = p then some ⟨b, off, none⟩ else some ⟨b, off + p, none⟩) (zs.drop p) := by
  by_cases e : cap = p
  · left; have : (zs.drop p).length = 0 := by simp; omega
    exact List.eq_nil_of_length_eq_zero this
  · rw [if_neg e]
    rcases h with h | ⟨b', off', ha, hcell⟩
    · left; rw [h]; simp
    · have ha' : b = b' ∧ off = off' := by simpa using ha
      obtain ⟨rfl, rfl⟩ := ha'
      refine .inr ⟨b, off + p, rfl, fun i hi => ?_⟩
      have hi' : p + i < zs.length := by simp at hi; omega
      have := hcell (p + i) hi'
      rw [show off + p + i = off + (p + i) by omega, this]
      simp
theorem cut_from {b off L cap p : Nat} (h1 : p ≤ L) (h2 : L ≤ cap) (w : World) : (Instr.sliceAt 34 (.slice (some ⟨b, off, none⟩) L cap) (some (.int .i64 (p : Int))) none none).run Try.prog w = .ok (.slice (if cap = p then some ⟨b, off, none⟩ else some ⟨b, off + p, none⟩) (L - p) (cap - p)) w := by
  have h3 : (p : Int) ≤ (L : Int) := by omega
  have h4 : (L : Int) ≤ (cap : Int) := by omega
  go_simp
theorem go_succ (zs : List Int) (k : Nat) (acc : List Dt) (p : Nat) : DotMath.go zs (k + 1) acc p =
    if (DotMath.take (zs.drop p)).2.2 ≠ 0 then ([], 0, (DotMath.take (zs.drop p)).2.2) else
    if acc ≠ [] ∧ DotMath.less (acc.getLast?.getD DotMath.zero) (DotMath.take (zs.drop p)).1 = false then ([], 0, 21) else
    DotMath.go zs k (acc ++ [(DotMath.take (zs.drop p)).1]) (p + (DotMath.take (zs.drop p)).2.1.toNat) := rfl

set_option maxHeartbeats 16000000 in
theorem refDotAll_any (a : Option Addr) (zs : List Int) (cap : Nat) (w : World) (hr : Row .u8 w a zs) (hb : ∀ c ∈ zs, 0 ≤ c ∧ c ≤ 255) (hc : zs.length ≤ cap) (hm : cap ≤ maxLen) :
    Calls Try.prog 25 #[.slice a zs.length cap] w fun e w' => ∃ v, e = .returned (.tuple #[v, .int .i64 (DotMath.all zs).2.1, .int .i64 (DotMath.all zs).2.2]) ∧ Dots w' v (DotMath.all zs).1 ∧ Below w.heap.size w w' := by
  have HT : Hid _ := refTake_any a zs cap w hr hb hc hm
  unfold takV at HT
  unfold maxLen at hm
  rcases tak_cases zs hb with h | h | ⟨k0, v, hk, hkl, hv0, hv1, h, hD⟩
  · have HQ : Hid (DotMath.all zs = ([], 0, 20)) := by show _ = _; unfold DotMath.all; rw [h]; rfl
    rw [h] at HT
    rw [HQ.out]
    generalize zs.length = n at *
    clear hr h hb
    go_enter Try.func25, Try.ntmps25
    go_wp2_with fail
    refine Calls.mono HT.out ?_
    rintro e w1 ⟨rfl, rfl⟩
    go_wp2
    go_ret3
    exact ⟨_, rfl, Dots.nil _, Below.refl _ _⟩
  · have HQ : Hid (DotMath.all zs = ([], 0, 21)) := by show _ = _; unfold DotMath.all; rw [h]; rfl
    rw [h] at HT
    rw [HQ.out]
    generalize zs.length = n at *
    clear hr h hb
    go_enter Try.func25, Try.ntmps25
    go_wp2_with fail
    refine Calls.mono HT.out ?_
    rintro e w1 ⟨rfl, rfl⟩
    go_wp2
    go_ret3
    exact ⟨_, rfl, Dots.nil _, Below.refl _ _⟩
  by_cases hv : 16 < v
  · have HQ : Hid (DotMath.all zs = ([], 0, 21)) := by show _ = _; unfold DotMath.all; rw [h]; simp only []; rw [if_neg (by simp), if_pos hv]
    rw [h] at HT
    rw [HQ.out]
    generalize zs.length = n at *
    clear hr h hb hD
    go_enter Try.func25, Try.ntmps25
    go_wp2_with fail
    refine Calls.mono HT.out ?_
    rintro e w1 ⟨rfl, rfl⟩
    go_wp2
    go_ret3
    exact ⟨_, rfl, Dots.nil _, Below.refl _ _⟩
  obtain ⟨n, rfl⟩ : ∃ n : Nat, v = (n : Int) := ⟨v.toNat, by omega⟩
  have HG : Hid (DotMath.all zs = DotMath.go zs n [] (k0 + 1)) := by
    show _ = _
    unfold DotMath.all; rw [h]; simp only []
    rw [if_neg (by simp), if_neg hv]
    congr 1
  rw [h] at HT
  have hn16 : n ≤ 16 := by omega
  have hvi : (n : Int) ≤ 16 := by omega
  have e1 : IntKind.i64.wrap (n : Int) = (n : Int) := by rw [IntKind.wrap_i64]; omega
  obtain ⟨b, off, rfl⟩ : ∃ b off, a = some ⟨b, off, none⟩ := by
    rcases hr with hr | ⟨b, off, ha, _⟩
    · rw [hr] at hkl; simp at hkl
    · exact ⟨b, off, ha⟩
  obtain ⟨R, hR⟩ : ∃ R, R = DotMath.all zs := ⟨_, rfl⟩
  have HTk : Hid (∀ p, p ≤ zs.length → ∀ w', Below w.heap.size w w' → Calls Try.prog 21 #[.slice (if cap = p then some ⟨b, off, none⟩ else some ⟨b, off + p, none⟩) (zs.length - p) (cap - p)] w' fun e w'' => e = .returned (.tuple #[dtV (DotMath.take (zs.drop p)).1, .int .i64 (DotMath.take (zs.drop p)).2.1, .int .i64 (DotMath.take (zs.drop p)).2.2]) ∧ Below w'.heap.size w' w'') := fun p hp w' hB => by
    have := refDotTake_any (if cap = p then some ⟨b, off, none⟩ else some ⟨b, off + p, none⟩) (zs.drop p) (cap - p) w' ((row_from hr p cap hp hc).later hB) (fun c hc => hb c (List.mem_of_mem_drop hc)) (by simp; omega) (by unfold maxLen; omega)
    rw [List.length_drop] at this
    exact this
  have HCs : Hid (∀ p, p ≤ zs.length → _) := fun p (hp : p ≤ zs.length) => DotMath.take_cases (zs.drop p) (fun c hc => hb c (List.mem_of_mem_drop hc))
  have HGo : Hid (∀ k acc p, _) := fun k acc p => go_succ zs k acc p
  have HCut : Hid (∀ p, p ≤ zs.length → ∀ w, _) := fun p hp w => cut_from (b := b) (off := off) (L := zs.length) (cap := cap) hp hc w
  have HLd : Hid (∀ p, (zs.drop p).length = zs.length - p) := fun p => by simp
  rw [← hR] at HG ⊢
  generalize zs.length = L at *
  clear hr h hb hD hR hv
  go_enter Try.func25, Try.ntmps25
  go_wp2_with fail
  refine Calls.mono HT.out ?_
  rintro e w1 ⟨rfl, rfl⟩
  have HB0 : Hid (Below w1.heap.size w1 w1) := Below.refl _ _
  go_wp2_with fail
  go_loopw [6, 8, 9] (fun at_ v i wr => ∃ (k p : Nat) (acc : List Dt), k ≤ n ∧ p ≤ L ∧ i = .int .i64 k ∧ at_ = .int .i64 p ∧ acc.length = k ∧ DOwn wr w1.heap.size v acc ∧ R = DotMath.go zs (n - k) acc p ∧ Below w1.heap.size w1 wr) (fun _ _ i _ => n - (intOf i).toNat)
  case atStart => exact ⟨0, k0 + 1, [], by omega, hkl, rfl, rfl, rfl, DOwn.nil _ _, HG.out, Below.refl _ _⟩
  case round =>
    obtain ⟨k, p, acc, hk, hp, rfl, rfl, hacc, hO, hG, hB⟩ := hrel
    have HB : Hid (Below w1.heap.size w1 wr) := hB
    have HR : Hid (R = DotMath.go zs (n - k) acc p) := hG
    obtain ⟨ao, c, rfl, hrow, hac, hcm, hnil⟩ := hO.dots
    rw [hacc] at hO hac ⊢
    have HO : Hid (DOwn wr w1.heap.size (.slice ao k c) acc) := hO
    have HRw : Hid (DRow wr ao acc) := hrow
    have HAcc : Hid (acc.length = k) := hacc
    clear hO hG hB hrow HG hacc HB0
    by_cases hkn : k < n
    · have hki : (k : Int) < (n : Int) := by omega
      have hcut := HCut.out p hp
      have HTp : Hid _ := HTk.out p hp _ HB.out
      have HRs : Hid _ := HGo.out (n - k - 1) acc p
      rw [show n - k - 1 + 1 = n - k by omega, ← HR.out] at HRs
      have hcs := HCs.out p hp
      have hld := HLd.out p
      generalize DotMath.take (zs.drop p) = T at *
      generalize (if cap = p then some (⟨b, off, none⟩ : Addr) else some ⟨b, off + p, none⟩) = ap at *
      unfold dtV at HTp
      have hpi : (p : Int) ≤ (L : Int) := by omega
      rcases hcs with rfl | rfl | ⟨m, d, hm2, hml, rfl, _, _⟩
      · have HQ : Hid (R = ([], 0, 20)) := by rw [HRs.out]; rfl
        go_wp2_with fail
        refine Calls.mono HTp.out ?_
        rintro e w2 ⟨rfl, hb2⟩
        have HXn : Hid (DtAt (w2.alloc (.cells #[.int .i64 0, .int .i64 0] 23)) w2.heap.size DotMath.zero) := DtAt.new w2 DotMath.zero rfl
        have HB2 : Hid (Below w1.heap.size w1 ((w2.alloc (.cells #[.int .i64 0, .int .i64 0] 23)).setRow w2.heap.size (dtL DotMath.zero).toArray)) := by
          have h2 := HB.out.trans (hb2.mono HB.out.size)
          exact below_setRow (h2.alloc h2.size _) h2.size _
        clear hb2 hcut
        go_wp2_with (refine wpList_store_dt rfl (.tmp 10) (.tmp 35) rfl w2.heap.size DotMath.zero DotMath.zero rfl rfl HXn.out ?_)
        go_ret3
        exact ⟨_, by rw [HQ.out]; rfl, by rw [HQ.out]; exact Dots.nil _, HB2.out⟩
      · have HQ : Hid (R = ([], 0, 21)) := by rw [HRs.out]; rfl
        go_wp2_with fail
        refine Calls.mono HTp.out ?_
        rintro e w2 ⟨rfl, hb2⟩
        have HXn : Hid (DtAt (w2.alloc (.cells #[.int .i64 0, .int .i64 0] 23)) w2.heap.size DotMath.zero) := DtAt.new w2 DotMath.zero rfl
        have HB2 : Hid (Below w1.heap.size w1 ((w2.alloc (.cells #[.int .i64 0, .int .i64 0] 23)).setRow w2.heap.size (dtL DotMath.zero).toArray)) := by
          have h2 := HB.out.trans (hb2.mono HB.out.size)
          exact below_setRow (h2.alloc h2.size _) h2.size _
        clear hb2 hcut
        go_wp2_with (refine wpList_store_dt rfl (.tmp 10) (.tmp 35) rfl w2.heap.size DotMath.zero DotMath.zero rfl rfl HXn.out ?_)
        go_ret3
        exact ⟨_, by rw [HQ.out]; rfl, by rw [HQ.out]; exact Dots.nil _, HB2.out⟩
      · rw [hld] at hml
        have HQ : Hid (R = if acc ≠ [] ∧ DotMath.less (acc.getLast?.getD DotMath.zero) d = false then ([], 0, 21) else DotMath.go zs (n - k - 1) (acc ++ [d]) (p + m)) := by
          show _ = _
          rw [HRs.out]; simp only []
          rw [if_neg (by simp)]
          congr 2
        have hpm : p + m ≤ L := by omega
        clear HRs hld
        go_wp2_with fail
        refine Calls.mono HTp.out ?_
        rintro e w2 ⟨rfl, hb2⟩
        have HXn : Hid (DtAt (w2.alloc (.cells #[.int .i64 0, .int .i64 0] 23)) w2.heap.size DotMath.zero) := DtAt.new w2 DotMath.zero rfl
        have HX2 : Hid (DtAt ((w2.alloc (.cells #[.int .i64 0, .int .i64 0] 23)).setRow w2.heap.size (dtL d).toArray) w2.heap.size d) := DtAt.row HXn.out
        have HBs : Hid (Below wr.heap.size wr ((w2.alloc (.cells #[.int .i64 0, .int .i64 0] 23)).setRow w2.heap.size (dtL d).toArray)) := below_setRow (hb2.alloc hb2.size _) hb2.size _
        have HB2 : Hid (Below w1.heap.size w1 ((w2.alloc (.cells #[.int .i64 0, .int .i64 0] 23)).setRow w2.heap.size (dtL d).toArray)) := HB.out.trans (HBs.out.mono HB.out.size)
        have HO2 : Hid _ := HO.out.later HBs.out
        have HRw2 : Hid _ := HRw.out.later HBs.out
        clear hb2 hcut HTp HO HRw HB HBs
        go_upto_region 13 with (refine wpList_store_dt rfl (.tmp 10) (.tmp 35) rfl w2.heap.size DotMath.zero d rfl rfl HXn.out ?_)
        clear HXn
        generalize (w2.alloc (.cells #[.int .i64 0, .int .i64 0] 23)).setRow w2.heap.size (dtL d).toArray = w3 at *
        generalize w2.heap.size = g at *
        have hne : Nonempty (Grown1 w3) := ⟨⟨w3, Below.refl _ _⟩⟩
        obtain ⟨x0, x1⟩ := HX2.out.cells
        have x0' := fun u : Grown1 w3 => grown1_cell x0 u
        have x1' := fun u : Grown1 w3 => grown1_cell x1 u
        cases k with
        | zero =>
          have hnil : acc = [] := List.eq_nil_of_length_eq_zero HAcc.out
          subst hnil
          have HQ2 : Hid (R = DotMath.go zs (n - 1) [d] (p + m)) := by show _ = _; rw [HQ.out, if_neg (by simp)]; rfl
          clear HQ x0 x1
          (try simp only [Act.put])
          refine wp_region_grow (by kernel_rfl) (by kernel_rfl) ?_
          repeat (go_big_quiet_step (fail))
          refine wpQuiet_nil ?_
          intro _ hw'
          obtain ⟨n1, hw''⟩ := hw'
          subst hw''
          have HX7 : Hid (DtAt n1.w g d) := HX2.out.later n1.below HX2.out.lt
          have HO7 : Hid _ := HO2.out.later n1.below
          have HB7 : Hid (Below w1.heap.size w1 n1.w) := HB2.out.trans (n1.below.mono HB2.out.size)
          clear x0' x1' HX2 HO2 HB2 HRw2
          generalize n1.w = u7 at *
          clear hne n1
          obtain ⟨x0, x1⟩ := HX7.out.cells
          have epm : IntKind.i64.wrap ((p : Int) + (m : Int)) = ((p + m : Nat) : Int) := by rw [IntKind.wrap_i64]; omega
          have hlit : DRow (u7.alloc (.cells (flatD [d]).toArray 23)) (some ⟨u7.heap.size, 0, none⟩) [d] := lit_dots u7 [d] rfl
          have hO8 : DOwn (u7.alloc (.cells (flatD [d]).toArray 23)) w1.heap.size (.slice ao 0 c) [] := HO7.out.alloc _
          go_wp2_with (at_builtin; refine wpList_app_dots rfl _ _ rfl w1.heap.size _ [] rfl hO8 (some ⟨u7.heap.size, 0, none⟩) 1 [d] 1 rfl rfl hlit (by simp) (by omega) (by simp) (by have := HB7.out.size; simp; omega) ?_; intro v4 w4 hown4 hgrow4)
          have HO9 : Hid (DOwn w4 w1.heap.size v4 [d]) := hown4
          have HB9 : Hid (Below w1.heap.size w1 w4) := (HB7.out.alloc HB7.out.size _).grown hgrow4 (by have := HB7.out.size; simp; omega) (fun q hq => (hO8.lt q hq).1)
          clear hown4 hgrow4 hO8 hlit x0 x1
          go_wp2
          go_roundw
          case rel => exact ⟨1, p + m, [d], by omega, hpm, by go_num, by first | rfl | (rw [epm]), rfl, HO9.out, HQ2.out, HB9.out⟩
          case measure => simp [intOf]; omega
        | succ j =>
          obtain ⟨b2, o2, rfl, _⟩ := DRow.at HRw2.out (by rw [HAcc.out]; omega)
          obtain ⟨q0, q1⟩ := DRow.cells HRw2.out (i := j) (by rw [HAcc.out]; omega)
          have hlast : acc.getLast?.getD DotMath.zero = acc[j]?.getD DotMath.zero := by rw [List.getLast?_eq_getElem?, HAcc.out]; rfl
          have hne0 : acc ≠ [] := fun e => by have := HAcc.out; rw [e] at this; simp at this
          have HL1 : Hid (∀ u : Grown1 w3, _) := fun u => refDotLess_any (acc[j]?.getD DotMath.zero) d u.w
          rw [hlast] at HQ
          have HNe : Hid (acc ≠ []) := hne0
          clear hlast hne0
          generalize acc[j]?.getD DotMath.zero = dp at *
          have hj0 : (0 : Int) < ((j + 1 : Nat) : Int) := by omega
          have ej : IntKind.i64.wrap (((j + 1 : Nat) : Int) - 1) = (j : Int) := by rw [IntKind.wrap_i64]; omega
          have hjc : (j : Int) < (c : Int) := by omega
          have hjn : (j : Int) < ((j + 1 : Nat) : Int) := by omega
          have q0' := fun u : Grown1 w3 => grown1_cell q0 u
          have q1' := fun u : Grown1 w3 => grown1_cell q1 u
          clear x0 x1 q0 q1
          unfold dtV at HL1
          cases hl : DotMath.less dp d with
          | false =>
            have HQ2 : Hid (R = ([], 0, 21)) := by show _ = _; rw [HQ.out, if_pos ⟨HNe.out, hl⟩]
            rw [hl] at HL1
            clear HQ
            (try simp only [Act.put])
            refine wp_region_grow (by kernel_rfl) (by kernel_rfl) ?_
            repeat (go_big_quiet_step (first | with_reducible exact grown1_call _ (HL1.out _) | fail))
            refine wpQuiet_nil ?_
            intro _ hw'
            obtain ⟨n1, hw''⟩ := hw'
            subst hw''
            have HB7 : Hid (Below w1.heap.size w1 n1.w) := HB2.out.trans (n1.below.mono HB2.out.size)
            generalize n1.w = u7 at *
            go_wp2
            go_ret3
            exact ⟨_, by rw [HQ2.out]; rfl, by rw [HQ2.out]; exact Dots.nil _, HB7.out⟩
          | true =>
            have HQ2 : Hid (R = DotMath.go zs (n - (j + 1) - 1) (acc ++ [d]) (p + m)) := by show _ = _; rw [HQ.out, if_neg (by rw [hl]; simp)]
            rw [hl] at HL1
            clear HQ hl
            (try simp only [Act.put])
            refine wp_region_grow (by kernel_rfl) (by kernel_rfl) ?_
            repeat (go_big_quiet_step (first | with_reducible exact grown1_call _ (HL1.out _) | fail))
            refine wpQuiet_nil ?_
            intro _ hw'
            obtain ⟨n1, hw''⟩ := hw'
            subst hw''
            have HX7 : Hid (DtAt n1.w g d) := HX2.out.later n1.below HX2.out.lt
            have HO7 : Hid _ := HO2.out.later n1.below
            have HB7 : Hid (Below w1.heap.size w1 n1.w) := HB2.out.trans (n1.below.mono HB2.out.size)
            clear x0' x1' q0' q1' HX2 HO2 HB2 HRw2 HL1
            generalize n1.w = u7 at *
            clear hne n1
            obtain ⟨x0, x1⟩ := HX7.out.cells
            have epm : IntKind.i64.wrap ((p : Int) + (m : Int)) = ((p + m : Nat) : Int) := by rw [IntKind.wrap_i64]; omega
            have hlit : DRow (u7.alloc (.cells (flatD [d]).toArray 23)) (some ⟨u7.heap.size, 0, none⟩) [d] := lit_dots u7 [d] rfl
            have hO8 : DOwn (u7.alloc (.cells (flatD [d]).toArray 23)) w1.heap.size (.slice (some ⟨b2, o2, none⟩) (j + 1) c) acc := HO7.out.alloc _
            go_wp2_with (at_builtin; refine wpList_app_dots rfl _ _ rfl w1.heap.size _ acc rfl hO8 (some ⟨u7.heap.size, 0, none⟩) 1 [d] 1 rfl rfl hlit (by simp) (by omega) (by have := HAcc.out; simp; omega) (by have := HB7.out.size; simp; omega) ?_; intro v4 w4 hown4 hgrow4)
            have HO9 : Hid (DOwn w4 w1.heap.size v4 (acc ++ [d])) := hown4
            have HB9 : Hid (Below w1.heap.size w1 w4) := (HB7.out.alloc HB7.out.size _).grown hgrow4 (by have := HB7.out.size; simp; omega) (fun q hq => (hO8.lt q hq).1)
            have HA9 : Hid ((acc ++ [d]).length = j + 1 + 1) := by show _ = _; rw [List.length_append, HAcc.out]; rfl
            have HQ9 : Hid (R = DotMath.go zs (n - (j + 1 + 1)) (acc ++ [d]) (p + m)) := by show _ = _; rw [HQ2.out, Nat.sub_sub]
            clear hown4 hgrow4 hO8 hlit x0 x1
            go_wp2
            go_roundw
            case rel => exact ⟨j + 1 + 1, p + m, acc ++ [d], by omega, hpm, by go_num, by first | rfl | (rw [epm]), HA9.out, HO9.out, HQ9.out, HB9.out⟩
            case measure => simp [intOf]; omega
    · have hkk : k = n := by omega
      have hdk : decide ((k : Int) < (n : Int)) = false := by simp; omega
      have HQ : Hid (R = (acc, (p : Int), 0)) := by rw [HR.out, show n - k = 0 by omega]; rfl
      have HDs : Hid (Dots wr (.slice ao k c) acc) := ⟨ao, c, by rw [HAcc.out], HRw.out, by rw [HAcc.out]; exact hac, hcm, hnil⟩
      go_wp2
      go_ret3
      exact ⟨_, by rw [HQ.out]; rfl, by rw [HQ.out]; exact HDs.out, HB.out⟩
end Go.Proofs.Ytehaeepihjookaa
